"""The names, arguments and kinds of classes that the interface lists."""

import inspect
import unittest

from twoimages import books, cells, counters, errors, manifests, mending, notes, pictures, plans, starting, sums

PLAIN_ERRORS = ("Stopped", "BadSize", "BadPlace", "BadWorth", "BadCut", "BadKeys")
TELLING_ERRORS = (
    ("BadPicture", "word", "version"),
    ("BadManifest", "word", "sums"),
    ("BadStores", "number", 4),
    ("BadDeed", "number", 200),
    ("BadText", "place", 7),
)


def arguments(thing):
    return [one for one in inspect.signature(thing).parameters if one != "self"]


class Errors(unittest.TestCase):
    def test_any_refusal_is_a_value_error(self):
        self.assertEqual(errors.ImageError.__bases__, (ValueError,))
        self.assertEqual(errors.ImageError.__module__, "twoimages.errors")

    def test_each_is_straight_under_the_refusal(self):
        for word in PLAIN_ERRORS + tuple(row[0] for row in TELLING_ERRORS):
            with self.subTest(word):
                kind = getattr(errors, word)
                self.assertEqual(kind.__bases__, (errors.ImageError,))
                self.assertEqual(kind.__module__, "twoimages.errors")
                self.assertEqual(kind.__name__, word)

    def test_none_is_another(self):
        kinds = [getattr(errors, word) for word in PLAIN_ERRORS + tuple(row[0] for row in TELLING_ERRORS)]
        for one in kinds:
            for other in kinds:
                self.assertEqual(issubclass(one, other), one is other)

    def test_those_that_tell_a_value(self):
        for word, value, told in TELLING_ERRORS:
            with self.subTest(word):
                kind = getattr(errors, word)
                one = kind(told)
                self.assertEqual(getattr(one, value), told)
                self.assertIsInstance(one, errors.ImageError)
                self.assertIsInstance(one, ValueError)

    def test_a_value_is_each_objects_own(self):
        one = errors.BadManifest("length")
        other = errors.BadManifest("key")
        self.assertEqual((one.word, other.word), ("length", "key"))


class Functions(unittest.TestCase):
    def methods(self, kind, module, takes, listed):
        """A class has these methods itself, and takes this."""
        self.assertEqual(kind.__module__, module)
        self.assertEqual(arguments(kind), takes)
        for word, told in listed.items():
            with self.subTest(word):
                self.assertIn(word, vars(kind))
                self.assertEqual(arguments(vars(kind)[word]), told)

    def test_memory_has_its_methods_itself(self):
        self.methods(cells.Memory, "twoimages.cells", ["size"], {
            "read": ["place"],
            "row": ["place", "many"],
            "cells": [],
            "write": ["place", "worth"],
            "cut": ["many", "torn"],
            "up": [],
            "spoil": ["place", "worth"],
            "put": ["place", "row"],
            "writes": [],
        })

    def test_machine_has_its_methods_itself(self):
        self.methods(starting.Machine, "twoimages.starting", ["keys", "tries", "picture"], {
            "start": [],
            "yes": [],
            "update": ["manifest", "stores"],
            "double": [],
            "up": [],
            "cut": ["many", "torn"],
            "spoil": ["slot", "at", "worth"],
            "runs": [],
            "book": [],
            "floors": [],
            "slots": [],
            "cells": [],
            "writes": [],
        })

    def test_functions_stand_in_their_own_files(self):
        for module, listed in (
            (sums, {"sums": ["row"], "joined": ["parts"], "name": ["piece"], "seal": ["key", "row"]}),
            (counters, {"count": ["memory", "place"], "raise_to": ["memory", "place", "number"]}),
            (books, {"record": ["memory", "place"], "note": ["memory", "place", "row"]}),
            (pictures, {"judged": ["memory", "keys", "slot"]}),
            (manifests, {"manifest_of": ["keys", "picture"], "fetched": ["stores", "title"]}),
            (mending, {"update": ["memory", "keys", "tries", "manifest", "stores"], "double": ["memory", "keys"]}),
            (plans, {"played": ["machine", "deeds"], "led_over": ["machine", "manifest", "stores"]}),
            (notes, {"written": ["manifest"], "read": ["text"]}),
        ):
            for word, takes in listed.items():
                with self.subTest(word):
                    self.assertEqual(getattr(module, word).__module__, module.__name__)
                    self.assertEqual(arguments(getattr(module, word)), takes)


if __name__ == "__main__":
    unittest.main()
