"""Machines: what is begun at a start, and what is done while it runs."""

from twoimages.books import note, record
from twoimages.cells import Memory
from twoimages.checks import is_number
from twoimages.counters import count, raise_to
from twoimages.errors import BadKeys, BadPlace, Stopped
from twoimages.manifests import check_manifest, check_stores, manifest_of
from twoimages.mending import TRIAL, booked, double, note_steady, update
from twoimages.pictures import BOOK, KEY_FLOOR, LAID, MACHINE_CELLS, SLOT_CELLS, VERSION_FLOOR
from twoimages.pictures import judged, slot_place

MOST_TRIES = 3
SLOTS = (0, 1)


class Machine:
    """A machine with two slots for pictures, one of which runs, or none."""

    def __init__(self, keys, tries, picture):
        if not is_number(tries, 1, MOST_TRIES):
            raise BadKeys(f"a picture is tried 1 to {MOST_TRIES} times")
        # Other keys, and only then other pictures, are refused by what is made of them.
        self._memory = made(keys, picture)
        self._keys = tuple(keys)
        self._tries = tries
        self._running = None

    def start(self):
        """Begin a good picture, and tell which; or tell why neither is good."""
        # Whatever ran is over, even if power goes ahead of the next picture.
        self._running = None
        told = begun(self._memory, self._keys)
        if told[0] == "started":
            _, slot, _, how = told
            self._running = (slot, how)
        return told

    def yes(self):
        """Trust the picture that runs on trial."""
        why = self._why_not()
        if why != "trial":
            return ("no",) if why is None else (why,)
        slot, _ = self._running
        try:
            note_steady(self._memory, slot)
        except Stopped:
            self._running = None
            raise
        self._running = (slot, "trusted")
        return ("yes",)

    def update(self, manifest, stores):
        """Lay a new picture beside the trusted one that runs, and put it on trial."""
        check_manifest(manifest)
        check_stores(stores)
        why = self._why_not()
        if why is not None:
            return (why,)
        try:
            return update(self._memory, self._keys, self._tries, manifest, stores)
        except Stopped:
            self._running = None
            raise

    def double(self):
        """Make the other slot like the trusted one that runs, and raise the floors to it."""
        why = self._why_not()
        if why is not None:
            return (why,)
        try:
            return double(self._memory, self._keys)
        except Stopped:
            self._running = None
            raise

    def up(self):
        """Tell that power is there again, or call off the cut that is due; nothing runs then."""
        self._memory.up()
        self._running = None

    def cut(self, many, torn):
        """Let power go in the write behind so many more, its cell left as torn tells."""
        self._memory.cut(many, torn)

    def spoil(self, slot, at, worth):
        """Make a cell of a slot hold this number, or broken (None), without a write."""
        # Another cell's number would reach what isn't the slot's own.
        if slot not in SLOTS or not 0 <= at < SLOT_CELLS:
            raise BadPlace(f"slots 0 and 1 have cells from 0 to {SLOT_CELLS - 1}")
        self._memory.spoil(slot_place(slot) + at, worth)

    def runs(self):
        """Tell the slot that runs and as what it was begun, None if nothing runs."""
        return self._running

    def book(self):
        """Tell the book's record."""
        return record(self._memory, BOOK)

    def floors(self):
        """Tell the floors for versions and for keys."""
        return (count(self._memory, VERSION_FLOOR), count(self._memory, KEY_FLOOR))

    def slots(self):
        """Tell what is judged of each slot."""
        return [judged(self._memory, self._keys, slot) for slot in SLOTS]

    def cells(self):
        """Tell what all cells hold."""
        return self._memory.cells()

    def writes(self):
        """Tell how many whole writes there were."""
        return self._memory.writes()

    def _why_not(self):
        """Tell why the trusted picture isn't the one that runs, None if it is."""
        # The book is read even if nothing runs, for without power there is no answer at all.
        trusted, _, _ = booked(self._memory)
        if self._running is None:
            return "down"
        slot, _ = self._running
        return None if slot == trusted else "trial"


def made(keys, picture):
    """Tell a new machine's memory."""
    *head, _ = manifest_of(keys, picture)
    version, cells, number = picture
    bench = Memory(MACHINE_CELLS)
    raise_to(bench, VERSION_FLOOR, version)
    raise_to(bench, KEY_FLOOR, number)
    note_steady(bench, 0)
    for slot in SLOTS:
        bench.put(slot_place(slot), [LAID, *head, *cells])
    # What the factory writes is none of the machine's own writes.
    memory = Memory(MACHINE_CELLS)
    for place, worth in enumerate(bench.cells()):
        memory.spoil(place, worth)
    return memory


def begun(memory, keys):
    """Find the picture that a start begins, note what is to be noted ahead, and tell of it."""
    trusted, state, tries = booked(memory)
    other = 1 - trusted
    if state == TRIAL:
        if tries > 0:
            # Noted ahead of the trial, for a trial may end by power going.
            note(memory, BOOK, (trusted, TRIAL, tries - 1))
            verdict = judged(memory, keys, other)
            if verdict[0] == "good":
                return ("started", other, verdict[1], "trial")
        note_steady(memory, trusted)
    verdict = judged(memory, keys, trusted)
    if verdict[0] == "good":
        return ("started", trusted, verdict[1], "trusted")
    verdict = judged(memory, keys, other)
    if verdict[0] == "good":
        note_steady(memory, other)
        return ("started", other, verdict[1], "other")
    first, second = [judged(memory, keys, slot)[0] for slot in SLOTS]
    return ("stranded", first, second)
