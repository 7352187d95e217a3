"""Mending: laying a new picture beside the trusted one, and making both slots alike."""

from twoimages.books import note, record
from twoimages.checks import check_handed
from twoimages.counters import raise_to
from twoimages.manifests import PIECE_CELLS, check_manifest, check_stores, fetched
from twoimages.pictures import BOOK, HEAD_CELLS, KEY_FLOOR, LAID, MACHINE_CELLS, VERSION_FLOOR
from twoimages.pictures import has_key, head_seal, judged, slot_place
from twoimages.sums import name

STEADY = 0
TRIAL = 1
NO_RECORD = (0, 0, 0)
NOT_LAID = 0


def update(memory, keys, tries, manifest, stores):
    """Lay a manifest's picture in the other slot and put it on trial, or tell why not."""
    check_handed(memory, 0, MACHINE_CELLS, [tries])
    check_manifest(manifest)
    check_stores(stores)
    trusted, state, _ = booked(memory)
    why = why_not_in(memory, keys, trusted, manifest)
    if why is not None:
        return (why,)
    if state == TRIAL:
        note_steady(memory, trusted)
    other = 1 - trusted
    unlay(memory, other)
    *head, names = manifest
    told = lay_pieces(memory, trusted, names, stores)
    if told[0] == "laid":
        lay_head(memory, other, head)
        note(memory, BOOK, (trusted, TRIAL, tries))
    return told


def double(memory, keys):
    """Make the other slot like the trusted one, then raise the floors to that picture, or tell why not."""
    check_handed(memory, 0, MACHINE_CELLS, [])
    trusted, state, _ = booked(memory)
    if state == TRIAL:
        return ("no", "trial")
    verdict = judged(memory, keys, trusted)
    if verdict[0] != "good":
        return ("no", verdict[0])
    many = 0 if are_alike(memory, keys) else copy_picture(memory, trusted)
    # Raised any sooner, the floors might leave no good picture but this one.
    _, version, _, _, _, number, _ = head_in(memory, trusted)
    raise_to(memory, VERSION_FLOOR, version)
    raise_to(memory, KEY_FLOOR, number)
    return ("doubled", many)


def booked(memory):
    """Tell what a machine's book says: the trusted slot, the state, and how many tries are left."""
    told = record(memory, BOOK)
    return NO_RECORD if told is None else told


def note_steady(memory, slot):
    """Note a slot as trusted, and that nothing is on trial."""
    note(memory, BOOK, (slot, STEADY, 0))


def why_not_in(memory, keys, trusted, manifest):
    """Tell why a manifest may not come in, None if it may."""
    version, _, _, _, number, sealed, _ = manifest
    verdict = judged(memory, keys, trusted)
    if verdict[0] != "good":
        return "hurt"
    if not has_key(memory, keys, number):
        return "key"
    if head_seal(keys, manifest) != sealed:
        return "seal"
    # The trusted picture is good, so what is newer is no less than the floor, either.
    if version <= verdict[1]:
        return "old"
    return None


def lay_pieces(memory, trusted, names, stores):
    """Lay piece by piece in the other slot; tell how many of each sort, or which one lacks."""
    held = pieces_in(memory, trusted)
    place = slot_place(1 - trusted) + HEAD_CELLS
    kept = copied = brought = 0
    for number, title in enumerate(names):
        first = place + PIECE_CELLS * number
        if name(memory.row(first, title[-1])) == title:
            kept += 1
        elif title in held:
            memory.put(first, held[title])
            copied += 1
        else:
            piece, _ = fetched(stores, title)
            if piece is None:
                return ("lacks", number)
            memory.put(first, piece)
            brought += 1
    return ("laid", kept, copied, brought)


def pieces_in(memory, slot):
    """Tell the pieces of a good picture by their names, the last one where several have one name."""
    cells = picture_in(memory, slot)
    pieces = [cells[at:at + PIECE_CELLS] for at in range(0, len(cells), PIECE_CELLS)]
    return {name(piece): piece for piece in pieces}


def are_alike(memory, keys):
    """Tell whether both slots have one head, and are judged alike."""
    return head_in(memory, 0) == head_in(memory, 1) and judged(memory, keys, 0) == judged(memory, keys, 1)


def copy_picture(memory, trusted):
    """Lay the trusted picture in the other slot, and tell how many of its cells were written."""
    other = 1 - trusted
    unlay(memory, other)
    many = memory.put(slot_place(other) + HEAD_CELLS, picture_in(memory, trusted))
    lay_head(memory, other, head_in(memory, trusted)[1:])
    return many


def head_in(memory, slot):
    """Tell what the cells of a slot's head hold."""
    return memory.row(slot_place(slot), HEAD_CELLS)


def picture_in(memory, slot):
    """Tell what the cells of a good picture hold."""
    _, _, length, _, _, _, _ = head_in(memory, slot)
    return memory.row(slot_place(slot) + HEAD_CELLS, length)


def unlay(memory, slot):
    """Take a slot's mark away, so that nothing in it counts while it is changed."""
    memory.put(slot_place(slot), [NOT_LAID])


def lay_head(memory, slot, head):
    """Lay a head's numbers behind the picture they tell of, and last the mark by which both count."""
    memory.put(slot_place(slot) + 1, head)
    memory.write(slot_place(slot), LAID)
