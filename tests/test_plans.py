"""Point 17 of the document: plans, and leading over."""

import itertools
import unittest

from helping import FAR, HOW, Refusals
from laying import KEYS, manifest, store

from twoimages.errors import BadDeed, BadManifest, BadStores, Stopped
from twoimages.plans import led_over, played
from twoimages.starting import Machine

OLD = (4, 0, 9972, 17, 3)
NEW = (17, 3, 8, 1)
MANIFEST = manifest(8, NEW, 3)
STORES = [store(NEW)]
LED = [("started", 0, 7, "trusted"), ("laid", 0, 0, 2), ("started", 1, 8, "trial"), ("yes",), ("doubled", 4)]
BAD_MANIFESTS = (
    ("version", (0, *MANIFEST[1:])),
    ("version", (1000, *MANIFEST[1:])),
    ("length", (8, 0, *MANIFEST[2:])),
    ("length", (8, 13, *MANIFEST[2:])),
    ("names", (8, 5, *MANIFEST[2:])),
    ("names", (*MANIFEST[:6], ())),
    ("names", (*MANIFEST[:6], (MANIFEST[6][0], (9973, 0, 1)))),
    ("sums", (8, 4, 0, *MANIFEST[3:])),
    ("key", (*MANIFEST[:4], 4, *MANIFEST[5:])),
    ("key", (*MANIFEST[:4], -1, *MANIFEST[5:])),
    ("seal", (*MANIFEST[:5], 9973, MANIFEST[6])),
    ("seal", (*MANIFEST[:5], -1, MANIFEST[6])),
)
BAD_STORES = (
    (0, []),
    (0, [[((1, 2), (1,))]]),
    (0, [STORES[0] * 21]),
    (1, [[], [((1, 2, 3), ())]]),
    (2, [[], STORES[0], [((1, 2, 3), (1, 2, 3, 4))], [((1, 2, 9973), (1,))]]),
    (3, [[], [], [], [((1, 2, 3), (1, -1))]]),
    (4, [[]] * 5),
)


def factory(tries=2):
    return Machine(KEYS, tries, (7, OLD, 2))


class Plans(Refusals):
    def test_each_deed(self):
        machine = factory()
        deeds = [
            ("yes",), ("start",), ("yes",), ("double",), ("update", MANIFEST, [[]]), ("update", MANIFEST, STORES),
            ("double",), ("start",), ("update", MANIFEST, STORES), ("double",), ("spoil", 0, 7, None), ("yes",),
            ("yes",), ("double",), ("start",), ("spoil", 0, 0, 5), ("cut", 0, "old"), ("start",),
            ("spoil", 1, 18, 9972), ("double",), ("double",), ("start",), ("spoil", 0, 0, None),
            ("spoil", 1, 0, 0), ("start",), ("yes",),
        ]
        told = [
            ("down",), ("started", 0, 7, "trusted"), ("no",), ("doubled", 0), ("lacks", 0), ("laid", 0, 0, 2),
            ("no", "trial"), ("started", 1, 8, "trial"), ("trial",), ("trial",), None, ("yes",),
            ("no",), ("doubled", 4), ("started", 1, 8, "trusted"), None, None, ("started", 1, 8, "trusted"),
            None, ("stopped",), ("down",), ("started", 1, 8, "trusted"), None,
            None, ("stranded", "none", "none"), ("down",),
        ]
        self.assertEqual(played(machine, deeds), told)
        self.assertEqual(len(deeds), len(told))

    def test_an_empty_plan(self):
        machine = factory()
        self.assertEqual(played(machine, []), [])
        self.assertEqual((machine.cells(), machine.writes()), (factory().cells(), 0))

    def test_a_plan_does_what_the_methods_do(self):
        one, other = factory(), factory()
        told = played(one, [("start",), ("update", MANIFEST, STORES), ("start",), ("yes",), ("double",)])
        methods = [other.start(), other.update(MANIFEST, STORES), other.start(), other.yes(), other.double()]
        self.assertEqual(told, methods)
        self.assertEqual((one.cells(), one.writes(), one.runs()), (other.cells(), other.writes(), other.runs()))

    def test_plans_one_behind_the_other(self):
        machine = factory()
        told = []
        for deed in [("start",), ("update", MANIFEST, STORES), ("start",), ("yes",), ("double",)]:
            told += played(machine, [deed])
        self.assertEqual(told, LED)

    def test_where_power_went(self):
        """Power is there again at once, and nothing runs."""
        for torn in HOW:
            machine = factory()
            told = played(machine, [("start",), ("cut", 0, torn), ("update", MANIFEST, STORES)])
            self.assertEqual(told, [("started", 0, 7, "trusted"), None, ("stopped",)])
            self.assertIsNone(machine.runs())
            self.assertEqual(machine.floors(), (7, 2))
            self.assertEqual(machine.cells()[35], {"old": 1, "broken": None, "new": 0}[torn])
            told = played(machine, [("yes",), ("start",), ("update", MANIFEST, STORES)])
            self.assertEqual(told, [("down",), ("started", 0, 7, "trusted"), ("laid", 0, 0, 2)])

    def test_each_deed_that_power_goes_in(self):
        begin = [("start",), ("update", MANIFEST, STORES), ("start",), ("yes",)]
        for ahead, deed in ((begin[:1], begin[1]), (begin[:2], begin[2]), (begin[:3], begin[3]), (begin, ("double",))):
            for many in (0, 2, 5):
                machine = factory()
                told = played(machine, ahead + [("cut", many, "broken"), deed, deed])
                self.assertEqual(told[len(ahead):-1], [None, ("stopped",)])
                self.assertIn(told[-1][0], ("down", "started"))

    def test_a_cut_stays_due(self):
        machine = factory()
        self.assertEqual(played(machine, [("cut", 30, "new"), ("start",), ("spoil", 0, 18, 1)])[0], None)
        told = played(machine, [("update", MANIFEST, STORES), ("start",), ("yes",), ("double",), ("start",)])
        self.assertEqual(told[:2], [("laid", 0, 0, 2), ("started", 1, 8, "trial")])
        self.assertEqual(told[2:], [("stopped",), ("down",), ("started", 1, 8, "trial")])
        machine = factory()
        played(machine, [("cut", 0, "old")])
        machine.start()
        self.refused(Stopped, machine.update, MANIFEST, STORES)

    def test_a_newer_cut(self):
        told = played(factory(), [("start",), ("cut", 0, "old"), ("cut", 100000, "old"), ("update", MANIFEST, STORES)])
        self.assertEqual(told[3], ("laid", 0, 0, 2))

    def test_a_machine_without_power(self):
        machine = factory()
        played(machine, [("start",), ("cut", 0, "old")])
        self.refused(Stopped, machine.update, MANIFEST, STORES)
        told = played(machine, [("spoil", 0, 18, 1), ("yes",), ("start",)])
        self.assertEqual(told, [None, ("stopped",), ("started", 0, 7, "trusted")])

    def test_bounds_of_what_can_be(self):
        for slot, at, worth in itertools.product((0, 1), (0, 18), (None, 0, 9972)):
            self.assertEqual(played(factory(), [("spoil", slot, at, worth)]), [None])
        for many, torn in itertools.product((0, 1, 100000), HOW):
            self.assertEqual(played(factory(), [("cut", many, torn)]), [None])

    def test_200_deeds(self):
        self.assertEqual(played(factory(), [("start",)] * 200), [("started", 0, 7, "trusted")] * 200)

    def test_the_same_is_told_again(self):
        deeds = [("start",), ("update", MANIFEST, STORES), ("cut", 9, "broken"), ("start",), ("yes",), ("start",)]
        self.assertEqual(played(factory(), deeds), played(factory(), deeds))


class RefusedPlans(Refusals):
    AHEAD = [("start",), ("update", MANIFEST, STORES), ("cut", 3, "old"), ("spoil", 1, 7, None), ("start",)]

    def number(self, deeds):
        """The number in the refusal, which comes ahead of all deeds."""
        machine = factory()
        machine.start()
        machine.update(MANIFEST, STORES)
        before = (machine.cells(), machine.writes(), machine.runs(), machine.book())
        number = self.refused(BadDeed, played, machine, deeds).number
        self.assertEqual(self.refused(BadDeed, played, machine, deeds).number, number)
        self.assertEqual((machine.cells(), machine.writes(), machine.runs(), machine.book()), before)
        # No cut came due, either.
        self.assertEqual(machine.start(), ("started", 1, 8, "trial"))
        return number

    def bad(self, deed):
        for many in (0, 1, 5):
            self.assertEqual(self.number(self.AHEAD[:many] + [deed]), many, deed)
        self.assertEqual(self.number([*self.AHEAD, deed, ("start",), ("stop",)]), 5)

    def test_words(self):
        for word in ("", "Start", "stop", "up", "runs", "starts", "START", " start", "played", "updates"):
            self.bad((word,))
        self.bad(())

    def test_parts_that_are_too_many_or_lack(self):
        for deed in (
            ("start", 0), ("start", None), ("yes", 1), ("double", MANIFEST), ("update",), ("update", MANIFEST),
            ("update", MANIFEST, STORES, 3), ("cut",), ("cut", 3), ("cut", 3, "old", 1), ("spoil",), ("spoil", 0),
            ("spoil", 0, 7), ("spoil", 0, 7, 1, 1),
        ):
            self.bad(deed)

    def test_manifests(self):
        for _, told in BAD_MANIFESTS:
            self.bad(("update", told, STORES))
            self.bad(("update", told, []))

    def test_stores(self):
        for _, stores in BAD_STORES:
            self.bad(("update", MANIFEST, stores))

    def test_cuts(self):
        for many in (-1, 100001, FAR, -FAR):
            for torn in HOW:
                self.bad(("cut", many, torn))
        for torn in ("", "torn", "Old", "brokennew", "none", "old "):
            self.bad(("cut", 0, torn))

    def test_spoilings(self):
        for slot in (-1, 2, 16, FAR, -FAR):
            self.bad(("spoil", slot, 0, 0))
        for slot, at in itertools.product((0, 1), (-1, 19, 35, FAR, -FAR)):
            self.bad(("spoil", slot, at, None))
        for slot, worth in itertools.product((0, 1), (-1, 9973, FAR, -FAR)):
            self.bad(("spoil", slot, 0, worth))

    def test_a_201st(self):
        for deed in (("start",), ("yes",), ("nothing",), ()):
            self.assertEqual(self.number([("start",)] * 200 + [deed]), 200)
            self.assertEqual(self.number([("start",)] * 200 + [deed] * 300), 200)
        self.assertEqual(self.number([("start",)] * 199 + [("nothing",)]), 199)

    def test_the_first_is_told(self):
        bad = [("nothing",), ("cut", -1, "old"), ("update", MANIFEST, []), ("spoil", 0, 19, 0), ("start", 1)]
        for at, deed in itertools.product(range(4), bad):
            self.assertEqual(self.number(self.AHEAD[:at] + [deed] + bad + [("start",)] * 300), at)


class LeadingOver(Refusals):
    def test_it_tells_what_each_deed_tells(self):
        for tries in (1, 2, 3):
            machine = factory(tries)
            self.assertEqual(led_over(machine, MANIFEST, STORES), LED)
            self.assertEqual((machine.runs(), machine.book()), ((1, "trusted"), (1, 0, 0)))
            self.assertEqual((machine.slots(), machine.floors()), ([("good", 8), ("good", 8)], (8, 3)))

    def test_over_and_over(self):
        machine = factory()
        for number in range(8, 60):
            cells = tuple(range(number, number + 1 + number % 12))
            told = led_over(machine, manifest(number, cells, 3), [store(cells)])
            self.assertEqual([one[0] for one in told], ["started", "laid", "started", "yes", "doubled"])
            self.assertEqual((machine.slots(), machine.floors()), ([("good", number)] * 2, (number, 3)))

    def test_what_does_not_come_in(self):
        told = led_over(factory(), manifest(7, NEW, 3), STORES)
        elder = ("started", 0, 7, "trusted")
        self.assertEqual(told, [elder, ("old",), elder, ("no",), ("doubled", 0)])
        told = led_over(factory(), MANIFEST, [[]])
        self.assertEqual(told, [elder, ("lacks", 0), elder, ("no",), ("doubled", 0)])

    def test_where_power_goes(self):
        machine = factory()
        machine.cut(0, "broken")
        told = led_over(machine, MANIFEST, STORES)
        elder = ("started", 0, 7, "trusted")
        self.assertEqual(told, [elder, ("stopped",), elder, ("no",), ("doubled", 0)])
        self.assertEqual(led_over(machine, MANIFEST, STORES), LED)

    def test_refused(self):
        down, dark = factory(), factory()
        dark.start()
        dark.cut(0, "old")
        self.refused(Stopped, dark.update, MANIFEST, STORES)
        for machine in (down, dark):
            before = (machine.cells(), machine.writes(), machine.runs())
            for word, told in BAD_MANIFESTS:
                for stores in (STORES, []):
                    self.assertEqual(self.refused(BadManifest, led_over, machine, told, stores).word, word)
            for number, stores in BAD_STORES:
                self.assertEqual(self.refused(BadStores, led_over, machine, MANIFEST, stores).number, number)
            self.assertEqual((machine.cells(), machine.writes(), machine.runs()), before)


class Lists(unittest.TestCase):
    """Point 1: nothing that is handed in is changed or kept, and what is told may be changed."""

    def test_plans_and_what_is_told(self):
        stores = [store(NEW)]
        deeds = [("start",), ("update", MANIFEST, stores), ("start",)]
        machine = factory()
        told = played(machine, deeds)
        self.assertEqual(deeds, [("start",), ("update", MANIFEST, [store(NEW)]), ("start",)])
        deeds.clear()
        stores[0].clear()
        told.clear()
        self.assertEqual(machine.runs(), (1, "trial"))
        self.assertEqual(played(machine, [("yes",)]), [("yes",)])
        stores = [store(NEW)]
        told = led_over(factory(), MANIFEST, stores)
        self.assertEqual(stores, [store(NEW)])
        stores.clear()
        self.assertEqual(told, LED)

    def test_a_plan_that_was_refused(self):
        deeds = [("start",), ("update", MANIFEST, []), ("start",)]
        self.assertRaises(BadDeed, played, factory(), deeds)
        self.assertEqual(deeds, [("start",), ("update", MANIFEST, []), ("start",)])
