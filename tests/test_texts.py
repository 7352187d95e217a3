"""Point 18 of the document: manifests as texts."""

import itertools

from helping import FAR, Refusals
from laying import KEYS, manifest

from twoimages.errors import BadManifest, BadText
from twoimages.manifests import manifest_of
from twoimages.notes import read, written

MANIFEST = manifest(8, (1, 2, 3, 55), 2)
TEXT = written(MANIFEST)
WORDS = TEXT.split(" ")
NO_NUMBERS = (
    "", "-1", "+1", "00", "01", "0001", "10000", "12345", "99999", "1.0", "1,2", "1,2,3", "a", "1a", "a1", "0x1", "1_0",
    "\n", "1\n", "\t", "1\t", "\u00b2", "\u0661", "\uff11", "None", "picture", "1e3", "-0", "'1'", "00000",
)


class Texts(Refusals):
    def test_written_by_hand(self):
        told = (5, 3, 9, 16, 0, 267, ((9, 16, 3),))
        self.assertEqual(written(told), "picture 5 3 9 16 0 267 9,16,3")
        self.assertEqual(read("picture 5 3 9 16 0 267 9,16,3"), told)
        told = (1, 4, 10, 26, 1, 0, ((9, 16, 3), (1, 1, 1)))
        self.assertEqual(written(told), "picture 1 4 10 26 1 0 9,16,3 1,1,1")
        self.assertEqual(read("picture 1 4 10 26 1 0 9,16,3 1,1,1"), told)

    def test_what_is_written_is_read_to_the_same(self):
        for length, number, version in itertools.product(range(1, 13), range(4), (1, 10, 100, 999)):
            for worth in (0, 9, 99, 999, 9972):
                told = manifest_of(KEYS, (version, (worth,) * length, number))
                text = written(told)
                self.assertIsInstance(text, str)
                self.assertEqual(len(text.split(" ")), 7 + (length + 2) // 3)
                self.assertEqual(read(text), told)
                self.assertEqual(written(read(text)), text)
                self.assertEqual(read(text), told)

    def test_kinds(self):
        told = read(TEXT)
        self.assertIs(type(told), tuple)
        self.assertIs(type(told[6]), tuple)
        self.assertEqual([type(one) for one in told[:6]], [int] * 6)
        for title in told[6]:
            self.assertIs(type(title), tuple)
            self.assertEqual([type(one) for one in title], [int] * 3)

    def test_numbers_at_the_bounds(self):
        for told in ((1, 1, 0, 9972, 0, 0, ((0, 9972, 1),)), (999, 3, 9972, 0, 3, 9972, ((9972, 0, 3),))):
            self.assertEqual(read(written(told)), told)


class RefusedTexts(Refusals):
    def place(self, *words):
        told = self.refused(BadText, read, " ".join(words)).place
        self.assertEqual(self.refused(BadText, read, " ".join(words)).place, told)
        return told

    def word(self, *words):
        return self.refused(BadManifest, read, " ".join(words)).word

    def test_the_first_word(self):
        for word in ("", "Picture", "pictures", "pictur", "PICTURE", "8", "8,9,10", "\tpicture", "picture\n"):
            self.assertEqual(self.place(word, *WORDS[1:]), 0)
            self.assertEqual(self.place(word), 0)
        self.assertEqual(self.place(*WORDS[1:]), 0)

    def test_numbers(self):
        for at, word in itertools.product(range(1, 7), NO_NUMBERS):
            with self.subTest((at, word)):
                self.assertEqual(self.place(*WORDS[:at], word, *WORDS[at + 1:]), at)
                self.assertEqual(self.place(*WORDS[:at], word), at)
                self.assertEqual(self.place(*WORDS[:at], word, "", "-"), at)

    def test_numbers_in_names(self):
        for at, part, word in itertools.product((7, 8), range(3), NO_NUMBERS):
            if "," in word:
                continue
            parts = WORDS[at].split(",")
            parts[part] = word
            with self.subTest((at, parts)):
                self.assertEqual(self.place(*WORDS[:at], ",".join(parts), *WORDS[at + 1:]), at)

    def test_names_of_fewer_or_more_numbers(self):
        for word in (
            "", "1", "1,2", "1,2,", ",1,2", "1,,2", ",,", ",", "1,2,3,", ",1,2,3", "1,2,3,4", "1,2,3,,", "1;2;3",
            "1.2.3", "(1,2,3)", "1,2,3\n", "1,",
        ):
            for at in (7, 8):
                with self.subTest((at, word)):
                    self.assertEqual(self.place(*WORDS[:at], word, *WORDS[at + 1:]), at)
            self.assertEqual(self.place(*WORDS, word), 9)

    def test_two_blanks_and_blanks_at_an_end(self):
        for at in range(len(WORDS) + 1):
            self.assertEqual(self.place(*WORDS[:at], "", *WORDS[at:]), at)
        for text in ("", " ", "  ", " " + TEXT):
            self.assertEqual(self.refused(BadText, read, text).place, 0)
        self.assertEqual(self.refused(BadText, read, TEXT + " ").place, 9)
        self.assertEqual(self.refused(BadText, read, "picture ").place, 1)

    def test_other_blanks(self):
        for blank in ("\n", "\t", "\r", "\u00a0", "\u2003"):
            self.assertEqual(self.refused(BadText, read, TEXT.replace(" ", blank)).place, 0)
            self.assertEqual(self.refused(BadText, read, TEXT + blank).place, 8)

    def test_numbers_that_lack(self):
        for many in range(1, 7):
            self.assertEqual(self.place(*WORDS[:many]), many)
            if many > 1:
                self.assertEqual(self.place(*WORDS[:many - 1], "x"), many - 1)

    def test_a_word_left_out(self):
        for at in range(1, 7):
            # Then the first name stands where a number should.
            self.assertEqual(self.place(*WORDS[:at], *WORDS[at + 1:]), 6)
        self.assertEqual(self.word(*WORDS[:7], *WORDS[8:]), "names")
        self.assertEqual(self.word(*WORDS[:8]), "names")
        self.assertEqual(self.word(*WORDS[:7]), "names")

    def test_a_word_put_in_or_told_twice(self):
        for at in range(1, 8):
            self.assertEqual(self.place(*WORDS[:at], "7", *WORDS[at:]), 7)
        for at in range(1, 7):
            self.assertEqual(self.place(*WORDS[:at + 1], *WORDS[at:]), 7)
            self.assertEqual(self.place(*WORDS[:at], "picture", *WORDS[at:]), at)
        self.assertEqual(self.place("picture", *WORDS), 1)
        self.assertEqual(self.place(*WORDS, "7"), 9)
        for at in (7, 8):
            self.assertEqual(self.word(*WORDS[:at + 1], *WORDS[at:]), "names")
        self.assertEqual(self.word(*WORDS, *WORDS[7:] * 50), "names")

    def test_the_first_of_several_is_told(self):
        for at, later in itertools.combinations(range(9), 2):
            words = list(WORDS)
            words[at] = words[later] = "-"
            self.assertEqual(self.place(*words), at)

    def test_a_place_ahead_of_a_manifest(self):
        self.assertEqual(self.place("picture", "0", "13", *WORDS[3:8], "1,2"), 8)
        self.assertEqual(self.place("picture", "0", "13"), 3)

    def test_what_can_stand_there_but_can_not_be(self):
        for at, word, told in (
            (1, "0", "version"), (1, "1000", "version"), (1, "9999", "version"),
            (2, "0", "length"), (2, "13", "length"), (2, "5", "names"), (2, "3", "names"),
            (7, "9973,0,3", "names"), (7, "9,9999,3", "names"),
            (7, "9,16,2", "names"), (8, "56,56,0", "names"), (3, "0", "sums"), (3, "9973", "sums"), (4, "0", "sums"),
            (7, "9,17,3", "sums"), (8, "57,56,1", "sums"), (5, "4", "key"), (5, "9999", "key"), (6, "9973", "seal"),
            (6, "9999", "seal"),
        ):
            with self.subTest((at, word)):
                self.assertEqual(self.word(*WORDS[:at], word, *WORDS[at + 1:]), told)
        self.assertEqual(self.word("picture", "0", "0", "0", "0", "9", "9999"), "version")

    def test_another_number_that_can_be(self):
        for at, word in ((1, "9"), (1, "999"), (5, "0"), (5, "3"), (6, "0"), (6, "9972")):
            words = [*WORDS[:at], word, *WORDS[at + 1:]]
            told = read(" ".join(words))
            self.assertEqual(told, (*MANIFEST[:at - 1], int(word), *MANIFEST[at:]))


class RefusedManifests(Refusals):
    def test_written(self):
        for at, part, word in (
            (0, 0, "version"), (0, FAR, "version"), (1, 0, "length"), (1, 7, "names"), (6, (), "names"),
            (6, ((1, 1, 3), (-1, 1, 1)), "names"), (2, 0, "sums"), (4, -1, "key"), (4, 4, "key"), (5, -1, "seal"),
            (5, 9973, "seal"),
        ):
            bad = (*MANIFEST[:at], part, *MANIFEST[at + 1:])
            for _ in range(2):
                self.assertEqual(self.refused(BadManifest, written, bad).word, word)
