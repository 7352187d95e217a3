"""Manifests of pictures, and the stores that have their pieces."""

from twoimages.cells import GREATEST_WORTH
from twoimages.checks import is_number, is_row
from twoimages.errors import BadManifest, BadStores
from twoimages.pictures import GREATEST_VERSION, MOST_KEYS, MOST_LENGTH, check_keys, check_picture, head_seal
from twoimages.sums import joined, name, sums

PIECE_CELLS = 3
NAME_PARTS = 3
MOST_STORES = 4
MOST_IN_STORE = 40


def manifest_of(keys, picture):
    """Tell the manifest of a picture."""
    check_keys(keys)
    check_picture(keys, picture)
    version, cells, number = picture
    one, two = sums(cells)
    head = (version, len(cells), one, two, number)
    names = [name(cells[at:at + PIECE_CELLS]) for at in range(0, len(cells), PIECE_CELLS)]
    return (*head, head_seal(keys, head), tuple(names))


def check_manifest(manifest):
    """Refuse what can't be a manifest, by the word of the first part that can't."""
    version, length, one, two, number, sealed, names = manifest
    if not is_number(version, 1, GREATEST_VERSION):
        raise BadManifest("version")
    if not is_number(length, 1, MOST_LENGTH):
        raise BadManifest("length")
    if not are_names(names, length):
        raise BadManifest("names")
    if joined(names) != (one, two):
        raise BadManifest("sums")
    if not is_number(number, 0, MOST_KEYS - 1):
        raise BadManifest("key")
    if not is_number(sealed, 0, GREATEST_WORTH):
        raise BadManifest("seal")


def are_names(names, length):
    """Tell whether these can be the names of all pieces of so long a picture."""
    if not all([is_row(title, NAME_PARTS, NAME_PARTS) for title in names]):
        return False
    counts = [min(PIECE_CELLS, length - at) for at in range(0, length, PIECE_CELLS)]
    return [title[-1] for title in names] == counts


def fetched(stores, title):
    """Tell the first piece that has this name rightly, None if none has, and how many were looked at."""
    check_stores(stores)
    looks = 0
    for store in stores:
        for told, piece in store:
            if told == title:
                looks += 1
                # A store may say what it likes of a piece, only the piece's own name counts.
                if name(piece) == title:
                    return (tuple(piece), looks)
    return (None, looks)


def check_stores(stores):
    """Refuse what can't be stores, by the number of the first that can't."""
    if len(stores) == 0:
        raise BadStores(0)
    for number, store in enumerate(stores):
        if number >= MOST_STORES or not is_store(store):
            raise BadStores(number)


def is_store(store):
    """Tell whether a store can have what it has."""
    if len(store) > MOST_IN_STORE:
        return False
    return all([is_row(told, NAME_PARTS, NAME_PARTS) and is_row(piece, 1, PIECE_CELLS) for told, piece in store])
