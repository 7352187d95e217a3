"""Point 16 of the document: what holds wherever power goes, and whatever the deeds are."""

import itertools
import random
import unittest

from helping import HOW
from laying import KEYS, laid, manifest, store, title

from twoimages.plans import led_over, played
from twoimages.starting import Machine

OLD = (4, 0, 9972, 17, 3)
NEW = (17, 3, 8, 1)
MANIFEST = manifest(8, NEW, 3)
STORES = [store(NEW)]
LEADING = [("start",), ("update", MANIFEST, STORES), ("start",), ("yes",), ("double",)]


def factory(tries=2):
    return Machine(KEYS, tries, (7, OLD, 2))


class Watched:
    """A machine whose deeds are watched one by one, by what the document promises."""

    def __init__(self, case, tries=2):
        self.case = case
        self.tries = tries
        self.machine = factory(tries)
        self.floors = (0, 0)
        self.begun = 0

    def do(self, deed):
        before = self.look()
        [told] = played(self.machine, [deed])
        self.watch_floors()
        if told == ("stopped",):
            self.case.assertIsNone(self.machine.runs())
        if deed[0] == "start" and told != ("stopped",):
            self.watch_start(told)
        if deed[0] == "update" and (told[0] == "laid" or (told == ("stopped",) and self.is_laid_anew(before))):
            self.begun = 0
        if told is not None and told[0] in ("hurt", "key", "seal", "old", "trial", "down", "no"):
            self.case.assertEqual(self.look(), before)
        return told

    def look(self):
        machine = self.machine
        return (machine.cells(), machine.writes(), machine.runs(), machine.book())

    def is_laid_anew(self, before):
        book = self.machine.book()
        return book[1:] == (1, self.tries) and book != before[3]

    def watch_floors(self):
        """Floors never fall."""
        floors = self.machine.floors()
        self.case.assertTrue(floors[0] >= self.floors[0] and floors[1] >= self.floors[1])
        self.floors = floors

    def watch_start(self, told):
        self.case.assertEqual(told[0], "started")
        _, slot, version, how = told
        self.case.assertEqual(self.machine.slots()[slot], ("good", version))
        self.case.assertGreaterEqual(version, self.floors[0])
        self.case.assertEqual(self.machine.runs(), (slot, how))
        trusted = self.machine.book()[0]
        self.case.assertEqual(slot == trusted, how != "trial")
        if how == "trial":
            self.begun += 1
            self.case.assertLessEqual(self.begun, self.tries)

    def is_led_over(self):
        machine = self.machine
        return machine.slots() == [("good", 8)] * 2 and machine.floors() == (8, 3) and machine.book()[1:] == (0, 0)

    def lead_over(self):
        """Do all of it again behind a start, until it is led over; how often it took."""
        for many in range(1, 10):
            told = [self.do(deed) for deed in LEADING]
            if told[4][0] == "doubled" and self.is_led_over():
                return many
        raise AssertionError("it is never led over")


def whole_writes():
    """How many writes a leading over has."""
    machine = factory()
    led_over(machine, MANIFEST, STORES)
    return machine.writes()


class LeadingOver(unittest.TestCase):
    def test_power_that_goes_in_each_write(self):
        self.assertGreater(whole_writes(), 40)
        for many, torn, tries in itertools.product(range(whole_writes() + 1), HOW, (1, 2, 3)):
            with self.subTest((many, torn, tries)):
                watched = Watched(self, tries)
                watched.do(("cut", many, torn))
                self.assertLessEqual(watched.lead_over(), 3)
                self.assertEqual(watched.do(("start",))[1:], (watched.machine.book()[0], 8, "trusted"))

    def test_a_deed_that_was_stopped_comes_to_the_same_behind_a_start(self):
        """Each deed, wherever it is cut, does as it would have done."""
        for at, deed in enumerate(LEADING):
            whole = factory(3)
            played(whole, LEADING[:at] + [deed])
            ahead = factory(3)
            played(ahead, LEADING[:at])
            for many, torn in itertools.product(range(whole.writes() - ahead.writes()), HOW):
                watched = Watched(self, 3)
                told = [watched.do(one) for one in LEADING[:at] + [("cut", many, torn), deed, ("start",), deed]]
                machine = watched.machine
                with self.subTest((deed[0], many, torn)):
                    self.assertEqual(told[at + 1], ("stopped",))
                    self.assertEqual(machine.slots(), whole.slots())
                    self.assertEqual(machine.floors(), whole.floors())
                    self.assertEqual(machine.cells()[16:], whole.cells()[16:])
                    # The start that was cut and the one behind it may have taken a try each.
                    self.assertEqual(machine.book()[:2], whole.book()[:2])
                    self.assertIn(whole.book()[2] - machine.book()[2], (0, 1, 2))

    def test_several_cuts_one_behind_the_other(self):
        writes = whole_writes()
        for first, second in itertools.product(range(0, writes, 3), range(0, writes, 2)):
            for third in (first % 11, 23):
                watched = Watched(self, 1 + (first + second) % 3)
                cuts = [(first, HOW[first % 3]), (second, HOW[second % 3]), (third, HOW[(first + second) % 3])]
                for many, torn in cuts:
                    watched.do(("cut", many, torn))
                    for deed in LEADING:
                        watched.do(deed)
                watched.lead_over()

    def test_cut_at_the_same_write_over_and_over(self):
        for many, torn in itertools.product(range(8), HOW):
            watched = Watched(self, 1)
            for deed in LEADING * 12:
                watched.do(("cut", many, torn))
                watched.do(deed)
            watched.machine.up()
            watched.lead_over()


class Stores(unittest.TestCase):
    def test_what_lacks_or_is_spoilt_there_does_nothing_but_lack(self):
        good = store(NEW)
        spoilt = [(told, (*piece[:-1], piece[-1] + 1)) for told, piece in good]
        for stores, told in (
            ([[]], ("lacks", 0)),
            ([spoilt], ("lacks", 0)),
            ([spoilt, spoilt + spoilt, [], spoilt], ("lacks", 0)),
            ([spoilt, good[:1], spoilt], ("lacks", 1)),
            ([good[1:], spoilt], ("lacks", 0)),
            ([spoilt, good], ("laid", 0, 0, 2)),
            ([[], spoilt, spoilt, good[1:] + good[:1]], ("laid", 0, 0, 2)),
            ([[(title((1, 2, 3)), NEW[:3])], good[1:]], ("lacks", 0)),
        ):
            watched = Watched(self)
            watched.do(("start",))
            self.assertEqual(watched.do(("update", MANIFEST, stores)), told)
            started = watched.do(("start",))
            self.assertEqual(started[1:], (1, 8, "trial") if told[0] == "laid" else (0, 7, "trusted"))
            # Behind it, with good stores, nothing of this is left.
            watched.do(("yes",))
            watched.lead_over()


class Behind(unittest.TestCase):
    """Behind a doubling, what is older or sealed by retired keys doesn't come in again."""

    def test_older_pictures_and_retired_keys(self):
        watched = Watched(self)
        watched.lead_over()
        for version, number, why in (
            (7, 3, "old"), (8, 3, "old"), (1, 3, "old"), (9, 2, "key"), (999, 0, "key"), (7, 2, "key"), (8, 2, "key"),
        ):
            for cells in (OLD, NEW):
                self.assertEqual(watched.do(("update", manifest(version, cells, number), [store(cells)])), (why,))
        for elder in (0, 1, 2):
            # A picture that a retired key has sealed is told as the newest key's.
            told = manifest(9, NEW, 3, (*KEYS[:3], KEYS[elder]))
            self.assertEqual(watched.do(("update", told, STORES)), ("seal",))
        self.assertEqual(watched.do(("update", manifest(9, OLD, 3), [store(OLD)]))[0], "laid")

    def test_ahead_of_a_doubling_they_still_do(self):
        watched = Watched(self)
        for deed in LEADING[:4]:
            watched.do(deed)
        self.assertEqual(watched.do(("update", manifest(9, OLD, 2), [store(OLD)]))[0], "laid")

    def test_an_elder_picture_is_never_begun_again(self):
        """Not even if its cells are laid again as they were."""
        for slot in (0, 1):
            watched = Watched(self)
            watched.lead_over()
            for at, worth in enumerate(laid(7, OLD, 2)):
                watched.do(("spoil", slot, at, worth))
            self.assertEqual(watched.machine.slots()[slot], ("key",))
            for _ in range(3):
                self.assertEqual(watched.do(("start",))[1:3], (1 - slot, 8))


class Plans(unittest.TestCase):
    """Plans by chance, the same ones each time; cells are spoilt whenever the other slot is good."""

    def plan(self, chance, tries):
        watched = Watched(self, tries)
        told = []
        for _ in range(200):
            word = chance.choice(["start"] * 4 + ["yes", "double"] * 2 + ["update"] * 4 + ["cut"] * 2 + ["spoil"])
            told.append(watched.do(self.deed(chance, watched.machine, word)))
        # However it was left, the machine can be led over to something newer.
        watched.machine.up()
        watched.do(("start",))
        return told

    def deed(self, chance, machine, word):
        if word == "update":
            return self.update(chance, machine)
        if word == "cut":
            return ("cut", chance.randrange(40), chance.choice(HOW))
        if word == "spoil":
            good = [told[0] == "good" for told in machine.slots()]
            slots = [slot for slot in (0, 1) if good[1 - slot]]
            self.assertNotEqual(slots, [])
            at = chance.choice([0, *range(19)])
            return ("spoil", chance.choice(slots), at, chance.choice([None, 0, 1, 9972, chance.randrange(9973)]))
        return (word,)

    def update(self, chance, machine):
        versions = [told[1] for told in machine.slots() if told[0] == "good"]
        version = max(1, min(999, max(versions) + chance.choice([-1, 0, 1, 1, 1, 2])))
        cells = tuple(chance.randrange(3) for _ in range(chance.randint(1, 12)))
        told = manifest(version, cells, chance.choice([2, 2, 3, 3, 1]))
        stores = [store(cells), [], store(OLD), store(cells)[:1]]
        return ("update", told, stores[chance.randrange(2):])

    def test_plans(self):
        words = {}
        for seed in range(120):
            with self.subTest(seed):
                for told in self.plan(random.Random(seed), 1 + seed % 3):
                    if told is not None:
                        words[told[0]] = words.get(told[0], 0) + 1
        for word in (
            "started", "laid", "lacks", "yes", "doubled", "no", "stopped", "hurt", "old", "key", "trial", "down",
        ):
            self.assertGreater(words.get(word, 0), 100, word)
        self.assertNotIn("stranded", words)
