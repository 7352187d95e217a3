"""Points 14 and 15 of the document: starts, and what is done while a picture runs."""

import itertools

from helping import HOW, Refusals, stopped
from laying import KEYS, NO_PAGE, laid, manifest, noting, page, store, traced

from twoimages.errors import BadManifest, BadStores, Stopped
from twoimages.starting import Machine

OLD = (4, 0, 9972, 17, 3)
NEW = (17, 3, 8, 1)
NEWER = (17, 3, 8, 2, 2, 2, 2)
MANIFEST = manifest(8, NEW, 3)
STORES = [store(NEW, NEWER)]


def factory(tries=2):
    return Machine(KEYS, tries, (7, OLD, 2))


def laid_new(tries=2):
    """A machine with a new picture in slot 1, that no start has tried yet."""
    machine = factory(tries)
    machine.start()
    machine.update(MANIFEST, STORES)
    return machine


def trying(tries=2):
    """A machine that runs the new picture on trial."""
    machine = laid_new(tries)
    machine.start()
    return machine


def trusting():
    """A machine that trusts the new picture, in slot 1."""
    machine = trying()
    machine.yes()
    return machine


class Starts(Refusals):
    def start(self, machine, told, *notings):
        """A start tells this, and does these notings and no other writes."""
        cells, writes = machine.cells(), machine.writes()
        self.assertEqual(machine.start(), told)
        for which, number, *row in notings:
            cells[4 + 6 * which:10 + 6 * which] = page(number, *row)
        self.assertEqual(machine.cells(), cells)
        self.assertEqual(machine.writes(), writes + 7 * len(notings))
        self.assertEqual(machine.runs(), (told[1], told[3]) if told[0] == "started" else None)

    def test_trusted(self):
        machine = factory()
        for _ in range(3):
            self.start(machine, ("started", 0, 7, "trusted"))
        machine = trusting()
        for _ in range(3):
            self.start(machine, ("started", 1, 8, "trusted"))

    def test_trials_till_no_tries_are_left(self):
        for tries in (1, 2, 3):
            machine = laid_new(tries)
            self.assertEqual((machine.book(), machine.runs()), ((0, 1, tries), (0, "trusted")))
            for number in range(tries):
                which = number % 2
                self.start(machine, ("started", 1, 8, "trial"), (which, 3 + number, 0, 1, tries - 1 - number))
            self.start(machine, ("started", 0, 7, "trusted"), (tries % 2, 3 + tries, 0, 0, 0))
            self.start(machine, ("started", 0, 7, "trusted"))
            self.assertEqual(machine.slots(), [("good", 7), ("good", 8)])

    def test_a_trial_slot_that_is_spoilt(self):
        for at, worth in ((0, 0), (2, 0), (8, None), (5, 9), (6, 0), (3, 1)):
            machine = laid_new()
            machine.spoil(1, at, worth)
            self.start(machine, ("started", 0, 7, "trusted"), (0, 3, 0, 1, 1), (1, 4, 0, 0, 0))
            self.start(machine, ("started", 0, 7, "trusted"))
            machine = trying(1)
            machine.spoil(1, at, worth)
            self.start(machine, ("started", 0, 7, "trusted"), (1, 4, 0, 0, 0))

    def test_a_trusted_slot_that_is_spoilt(self):
        """The other one is noted as trusted."""
        for at, worth in ((0, 0), (2, 0), (8, None), (5, 9), (6, 0), (3, 1)):
            machine = factory()
            machine.spoil(0, at, worth)
            self.start(machine, ("started", 1, 7, "other"), (1, 2, 1, 0, 0))
            self.start(machine, ("started", 1, 7, "trusted"))
            machine = trusting()
            machine.spoil(1, at, worth)
            self.start(machine, ("started", 0, 7, "other"), (0, 5, 0, 0, 0))
            self.start(machine, ("started", 0, 7, "trusted"))

    def test_a_trusted_slot_that_is_spoilt_during_trials(self):
        machine = laid_new(2)
        machine.spoil(0, 7, None)
        self.start(machine, ("started", 1, 8, "trial"), (0, 3, 0, 1, 1))
        self.start(machine, ("started", 1, 8, "trial"), (1, 4, 0, 1, 0))
        self.start(machine, ("started", 1, 8, "other"), (0, 5, 0, 0, 0), (1, 6, 1, 0, 0))
        self.start(machine, ("started", 1, 8, "trusted"))

    def test_both_spoilt(self):
        reasons = ((0, 0, "none"), (2, 0, "length"), (8, None, "sum"), (5, 9, "key"), (6, 0, "seal"))
        for (at, worth, why), (other_at, other_worth, other_why) in itertools.product(reasons, repeat=2):
            told = ("stranded", why, other_why)
            for machine, notings in (
                (factory(), []),
                (laid_new(), [(0, 3, 0, 1, 1), (1, 4, 0, 0, 0)]),
                (trying(1), [(1, 4, 0, 0, 0)]),
                (trusting(), []),
            ):
                machine.spoil(0, at, worth)
                machine.spoil(1, other_at, other_worth)
                self.start(machine, told, *notings)
                self.start(machine, told)

    def test_a_stranded_machine_starts_again_when_its_picture_is_good_again(self):
        machine = factory()
        machine.spoil(0, 7, None)
        machine.spoil(1, 7, None)
        self.start(machine, ("stranded", "sum", "sum"))
        machine.spoil(1, 7, 4)
        self.start(machine, ("started", 1, 7, "other"), (1, 2, 1, 0, 0))

    def test_what_is_older_than_a_floor_is_not_begun(self):
        machine = trusting()
        machine.double()
        self.assertEqual(machine.floors(), (8, 3))
        # The elder picture, whole as it was in slot 0.
        for at, worth in enumerate(laid(7, OLD, 3)):
            machine.spoil(0, at, worth)
        machine.spoil(1, 7, None)
        self.start(machine, ("stranded", "old", "sum"))
        for at, worth in enumerate(laid(9, OLD, 2)):
            machine.spoil(0, at, worth)
        self.start(machine, ("stranded", "key", "sum"))

    def test_writes_in_their_order(self):
        def spoilt(machine, slot):
            machine.spoil(slot, 7, None)
            return machine

        for make, wanted in (
            (factory, []),
            (laid_new, noting(0, 3, 0, 1, 1)),
            (lambda: trying(1), noting(1, 4, 0, 0, 0)),
            (lambda: spoilt(laid_new(), 1), noting(0, 3, 0, 1, 1) + noting(1, 4, 0, 0, 0)),
            (lambda: spoilt(factory(), 0), noting(1, 2, 1, 0, 0)),
            (lambda: spoilt(trying(1), 0), noting(1, 4, 0, 0, 0) + noting(0, 5, 1, 0, 0)),
        ):
            self.assertEqual(traced(make, Machine.start), wanted)

    def test_power_that_goes_in_a_start(self):
        for make, many, torn in itertools.product((laid_new, lambda: trying(1)), range(7), HOW):
            machine = make()
            elder = machine.book()
            newer = (0, 1, 1) if elder == (0, 1, 2) else (0, 0, 0)
            self.assertTrue(stopped(machine, many, torn, Machine.start))
            self.assertIsNone(machine.runs())
            is_over = many == 6 and torn == "new"
            self.assertEqual(machine.book(), newer if is_over else elder)
            told = machine.start()
            self.assertEqual(told[0], "started")
            self.assertEqual(machine.runs(), (told[1], told[3]))


class Yes(Refusals):
    def test_down(self):
        machine = factory()
        self.assertEqual(machine.yes(), ("down",))
        machine.spoil(0, 7, None)
        machine.spoil(1, 7, None)
        machine.start()
        self.assertEqual(machine.yes(), ("down",))
        self.assertEqual(machine.writes(), 0)

    def test_no(self):
        new, hurt = factory(), factory()
        hurt.spoil(0, 7, None)
        new.start()
        hurt.start()
        for machine in (new, laid_new(), trusting(), hurt):
            runs, book, writes = machine.runs(), machine.book(), machine.writes()
            for _ in range(2):
                self.assertEqual(machine.yes(), ("no",))
                self.assertEqual((machine.runs(), machine.book(), machine.writes()), (runs, book, writes))
        self.assertEqual(hurt.runs(), (1, "other"))

    def test_yes(self):
        for tries in (1, 2, 3):
            machine = trying(tries)
            cells, writes = machine.cells(), machine.writes()
            self.assertEqual(machine.runs(), (1, "trial"))
            self.assertEqual(machine.yes(), ("yes",))
            self.assertEqual(machine.runs(), (1, "trusted"))
            cells[10:16] = page(4, 1, 0, 0)
            self.assertEqual(machine.cells(), cells)
            self.assertEqual(machine.writes(), writes + 7)
            self.assertEqual(machine.yes(), ("no",))
            self.assertEqual(machine.start(), ("started", 1, 8, "trusted"))
            self.assertEqual(traced(lambda: trying(tries), Machine.yes), noting(1, 4, 1, 0, 0))

    def test_of_a_trial_in_slot_0(self):
        machine = trusting()
        machine.update(manifest(9, NEWER, 2), STORES)
        self.assertEqual(machine.start(), ("started", 0, 9, "trial"))
        self.assertEqual(machine.yes(), ("yes",))
        self.assertEqual((machine.book(), machine.runs()), ((0, 0, 0), (0, "trusted")))

    def test_power_that_goes_in_it(self):
        for many, torn in itertools.product(range(7), HOW):
            machine = trying(2)
            self.assertTrue(stopped(machine, many, torn, Machine.yes))
            self.assertIsNone(machine.runs())
            self.assertEqual(machine.yes(), ("down",))
            is_over = many == 6 and torn == "new"
            self.assertEqual(machine.book(), (1, 0, 0) if is_over else (0, 1, 1))
            self.assertEqual(machine.start(), ("started", 1, 8, "trusted" if is_over else "trial"))
            self.assertEqual(machine.yes(), ("no",) if is_over else ("yes",))
            self.assertEqual(machine.runs(), (1, "trusted"))


class Running(Refusals):
    """update and double of a machine, by what runs."""

    def unchanged(self, machine, deed, told):
        before = (machine.cells(), machine.writes(), machine.runs())
        for _ in range(2):
            self.assertEqual(deed(), told)
            self.assertEqual((machine.cells(), machine.writes(), machine.runs()), before)

    def test_down(self):
        down = laid_new()
        stopped(down, 0, "old", Machine.start)
        for machine in (factory(), down):
            self.unchanged(machine, lambda: machine.update(MANIFEST, STORES), ("down",))
            self.unchanged(machine, machine.double, ("down",))

    def test_on_trial(self):
        for tries in (1, 2):
            machine = trying(tries)
            for told in (MANIFEST, manifest(9, NEWER, 2), manifest(1, NEW, 0)):
                self.unchanged(machine, lambda: machine.update(told, STORES), ("trial",))
            self.unchanged(machine, machine.double, ("trial",))

    def test_in_the_trusted_slot(self):
        machine = factory()
        machine.start()
        self.unchanged(machine, lambda: machine.update(manifest(7, NEW, 3), STORES), ("old",))
        self.unchanged(machine, lambda: machine.update(manifest(8, NEW, 1), STORES), ("key",))
        self.unchanged(machine, lambda: machine.update((*MANIFEST[:5], 0, MANIFEST[6]), STORES), ("seal",))
        self.assertEqual(machine.update(MANIFEST, [[]]), ("lacks", 0))
        self.assertEqual(machine.update(MANIFEST, STORES), ("laid", 0, 0, 2))
        self.assertEqual((machine.book(), machine.runs()), ((0, 1, 2), (0, "trusted")))
        self.unchanged(machine, machine.double, ("no", "trial"))
        self.assertEqual(machine.update(MANIFEST, STORES), ("laid", 2, 0, 0))
        machine.spoil(0, 7, None)
        self.unchanged(machine, lambda: machine.update(MANIFEST, STORES), ("hurt",))
        self.unchanged(machine, machine.double, ("no", "trial"))

    def test_once_trusted(self):
        machine = trusting()
        self.assertEqual(machine.double(), ("doubled", 4))
        self.assertEqual(machine.floors(), (8, 3))
        self.assertEqual(machine.double(), ("doubled", 0))
        self.assertEqual(machine.runs(), (1, "trusted"))
        self.assertEqual(machine.update(manifest(9, NEWER, 3), STORES), ("laid", 1, 0, 2))

    def test_hurt_while_it_runs(self):
        machine = factory()
        machine.start()
        machine.spoil(0, 7, None)
        self.unchanged(machine, lambda: machine.update(MANIFEST, STORES), ("hurt",))
        self.unchanged(machine, machine.double, ("no", "sum"))

    def test_in_the_other_slot(self):
        for deed in ("update", "double"):
            machine = factory()
            machine.spoil(0, 7, None)
            machine.start()
            self.assertEqual(machine.runs(), (1, "other"))
            if deed == "double":
                self.assertEqual(machine.double(), ("doubled", 1))
                self.assertEqual(machine.slots(), [("good", 7), ("good", 7)])
            else:
                self.assertEqual(machine.update(MANIFEST, STORES), ("laid", 0, 0, 2))
                self.assertEqual(machine.slots(), [("good", 8), ("good", 7)])
                self.assertEqual(machine.book(), (1, 1, 2))
            self.assertEqual(machine.runs(), (1, "other"))

    def test_the_tries_are_the_machines(self):
        for tries in (1, 2, 3):
            self.assertEqual(laid_new(tries).book(), (0, 1, tries))

    def test_refused_ahead_of_all(self):
        dark = laid_new()
        dark.cut(0, "old")
        self.refused(Stopped, dark.start)
        hurt = factory()
        hurt.start()
        hurt.spoil(0, 7, None)
        for machine in (factory(), laid_new(), trying(), trusting(), hurt, dark):
            before = (machine.cells(), machine.writes(), machine.runs())
            for at, part, word in (
                (0, 0, "version"), (1, 13, "length"), (6, ((1, 1, 4),), "names"), (3, 0, "sums"), (4, 4, "key"),
                (5, 9973, "seal"),
            ):
                bad = (*MANIFEST[:at], part, *MANIFEST[at + 1:])
                for stores in (STORES, []):
                    self.assertEqual(self.refused(BadManifest, machine.update, bad, stores).word, word)
            for number in range(4):
                stores = [[]] * number + [[((1, 2, 3), (-1,))]]
                self.assertEqual(self.refused(BadStores, machine.update, MANIFEST, stores).number, number)
            self.assertEqual(self.refused(BadStores, machine.update, MANIFEST, [[]] * 5).number, 4)
            self.assertEqual(self.refused(BadStores, machine.update, MANIFEST, []).number, 0)
            self.assertEqual((machine.cells(), machine.writes(), machine.runs()), before)

    def test_power_that_goes_in_them(self):
        for make, deed in (
            (lambda: self.started(factory()), lambda machine: machine.update(MANIFEST, STORES)),
            (trying, Machine.yes),
            (trusting, Machine.double),
        ):
            writes = traced(make, deed)
            self.assertGreaterEqual(len(writes), 7)
            for many, torn in itertools.product(range(len(writes)), HOW):
                machine = make()
                machine.cut(many, torn)
                self.refused(Stopped, deed, machine)
                self.assertIsNone(machine.runs())
                self.assertEqual(machine.writes(), make().writes() + many)
                machine.up()
                self.assertIsNone(machine.runs())
                self.assertEqual(deed(machine), ("down",))
                self.assertEqual(machine.start()[0], "started")

    def started(self, machine):
        machine.start()
        return machine

    def test_cells_behind_a_leading_over(self):
        machine = trusting()
        machine.double()
        slot = laid(8, NEW, 3)
        slots = slot[:11] + [3] + slot[12:] + slot[:11] + [3] + slot[12:]
        self.assertEqual(machine.cells(), [7, 8, 2, 3, *page(3, 0, 1, 1), *page(4, 1, 0, 0), *slots])
        self.assertEqual(factory().cells()[10:16], NO_PAGE)
