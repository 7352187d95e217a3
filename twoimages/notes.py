"""Manifests as texts."""

from twoimages.errors import BadText
from twoimages.manifests import NAME_PARTS, check_manifest

FIRST_WORD = "picture"
NUMBERS = 6
MOST_FIGURES = 4


def written(manifest):
    """Tell a manifest as a text."""
    check_manifest(manifest)
    *numbers, names = manifest
    titles = [",".join([str(number) for number in title]) for title in names]
    return " ".join([FIRST_WORD, *[str(number) for number in numbers], *titles])


def read(text):
    """Tell the manifest that a text is of."""
    words = text.split(" ")
    for place, word in enumerate(words):
        if not can_stand(word, place):
            raise BadText(place)
    _, *rest = words
    if len(rest) < NUMBERS:
        raise BadText(len(words))
    numbers = [int(word) for word in rest[:NUMBERS]]
    names = [tuple([int(part) for part in word.split(",")]) for word in rest[NUMBERS:]]
    manifest = (*numbers, tuple(names))
    check_manifest(manifest)
    return manifest


def can_stand(word, place):
    """Tell whether a word can stand at this place of a manifest's text."""
    if place == 0:
        return word == FIRST_WORD
    if place <= NUMBERS:
        return is_written_number(word)
    parts = word.split(",")
    return len(parts) == NAME_PARTS and all([is_written_number(part) for part in parts])


def is_written_number(word):
    """Tell whether a word is a number as it is written: a few figures, without a needless 0."""
    # There are figures of other scripts, which a text has none of.
    if not (word.isascii() and word.isdigit() and len(word) <= MOST_FIGURES):
        return False
    return len(word) == 1 or not word.startswith("0")
