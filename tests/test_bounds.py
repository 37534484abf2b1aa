"""Tests of onlywith.bounds and onlywith.errors."""

import unittest

from onlywith import bounds, errors
from support import ANY, Case

BOUNDS = {
    "MAX_WORD": 12, "MAX_NUMBER": 10 ** 9, "MAX_WIDTH": 6, "MAX_RELATIONS": 8, "MAX_FACTS": 400, "MAX_PATTERNS": 6,
    "MAX_TESTS": 6, "MAX_ANSWERS": 2000, "MAX_SAYINGS": 4, "MAX_WANTS": 4, "MAX_WRITES": 6, "MAX_TAME": 40,
    "MAX_CANDIDATES": 60, "MAX_POOL": 12, "MAX_TEMPLATES": 6, "MAX_KINDS": 2000, "MAX_COPIES": 6, "MAX_READS": 4,
    "MAX_RECORDS": 200,
}

# The argument of each error, None where there is none.
ERRORS = {
    "Unfit": None, "BadText": "place", "BadStore": "error", "BadChange": "error", "BadWish": "error",
    "NoVersion": "given", "NoUnifier": "place", "TooMany": "limit", "HasGroup": "group", "NotTame": "error",
    "Refused": "error", "NotWaiting": "given", "BadRecord": None, "BadLog": "line", "BadPicture": "place",
    "Early": "count",
}


class Bounds(Case):
    def test_all(self):
        found = {name: getattr(bounds, name) for name in vars(bounds) if name.startswith("MAX")}
        self.gives(sorted(found.items()), sorted(BOUNDS.items()))


class Errors(Case):
    def test_with_error(self):
        self.gives(errors.WithError.__bases__, (ValueError,))

    def test_bases(self):
        for name in ERRORS:
            self.gives(getattr(errors, name).__bases__, (errors.WithError,))

    def test_defined_there(self):
        for name in list(ERRORS) + ["WithError"]:
            self.gives(getattr(errors, name).__module__, "onlywith.errors")

    def test_without_argument(self):
        for name, word in ERRORS.items():
            if word is None:
                self.gives(vars(getattr(errors, name)()), {})

    def test_by_place_and_by_name(self):
        for name, word in ERRORS.items():
            kind = getattr(errors, name)
            for value in ANY if word else []:
                for error in (kind(value), kind(**{word: value})):
                    self.assertIs(getattr(error, word), value)
                    self.assertEqual(list(vars(error)), [word])

    def test_argument_is_needed(self):
        for name, word in ERRORS.items():
            if word is not None:
                with self.assertRaises(TypeError):
                    getattr(errors, name)()
                with self.assertRaises(TypeError):
                    getattr(errors, name)(1, 2)

    def test_caught_as_value_error(self):
        for name, word in ERRORS.items():
            kind = getattr(errors, name)
            with self.assertRaises(ValueError):
                raise kind() if word is None else kind(3)


if __name__ == "__main__":
    unittest.main()
