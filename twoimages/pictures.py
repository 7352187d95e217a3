"""Pictures, the slots they lie in, and what makes one good."""

from twoimages.cells import GREATEST_WORTH
from twoimages.checks import is_number, is_row
from twoimages.counters import count
from twoimages.errors import BadKeys, BadPicture
from twoimages.sums import seal, sums

# Where things lie in a machine's memory.
MACHINE_CELLS = 54
VERSION_FLOOR = 0
KEY_FLOOR = 2
BOOK = 4
FIRST_SLOT = 16

# A slot is its head, a mark ahead of six numbers, and room for the longest picture.
LAID = 1
HEAD_CELLS = 7
SEALED_NUMBERS = 5
MOST_LENGTH = 12
SLOT_CELLS = 19

MOST_KEYS = 4
GREATEST_VERSION = 999


def judged(memory, keys, slot):
    """Tell ("good", version) of a slot's picture, or why it isn't good."""
    cells = memory.row(slot_place(slot), SLOT_CELLS)
    mark, *head = cells[:HEAD_CELLS]
    if mark != LAID or None in head:
        return ("none",)
    version, length, one, two, number, sealed = head
    if not 1 <= length <= MOST_LENGTH:
        return ("length",)
    if sums(cells[HEAD_CELLS:HEAD_CELLS + length]) != (one, two):
        return ("sum",)
    if not has_key(memory, keys, number):
        return ("key",)
    if head_seal(keys, head) != sealed:
        return ("seal",)
    if version < floor_at(memory, VERSION_FLOOR):
        return ("old",)
    return ("good", version)


def slot_place(slot):
    """Tell the first cell of a slot."""
    return FIRST_SLOT + slot * SLOT_CELLS


def floor_at(memory, place):
    """Tell a floor; one of which both cells are broken counts as 0."""
    told = count(memory, place)
    return 0 if told is None else told


def has_key(memory, keys, number):
    """Tell whether there is a key of this number, no less than the key floor."""
    return floor_at(memory, KEY_FLOOR) <= number < len(keys)


def head_seal(keys, head):
    """Tell the seal that belongs to a head's numbers, from the version on; the key's number is the last sealed."""
    sealed = head[:SEALED_NUMBERS]
    return seal(keys[sealed[-1]], sealed)


def check_keys(keys):
    """Refuse what can't be keys."""
    if not 1 <= len(keys) <= MOST_KEYS:
        raise BadKeys(f"there are one to {MOST_KEYS} keys")
    for key in keys:
        if not is_number(key, 1, GREATEST_WORTH):
            raise BadKeys(f"a key is a number from 1 to {GREATEST_WORTH}")


def check_picture(keys, picture):
    """Refuse what can't be a picture, with these keys."""
    version, cells, number = picture
    if not is_number(version, 1, GREATEST_VERSION):
        raise BadPicture("version")
    if not is_row(cells, 1, MOST_LENGTH):
        raise BadPicture("cells")
    if not is_number(number, 0, len(keys) - 1):
        raise BadPicture("key")
