"""Tests of what the tests share, so that a check that passes tells something."""

import doctest
import os
import random
import unittest

from doc_examples import FOLDER, examples_of, wrong_examples
from support import ANY, INTERFACE, Case, at_path, paths_of, spoilt, steady, with_at
import support


class Examples(Case):
    """Each example of the document gives what stands behind it."""

    def test_part_a(self):
        self.gives(wrong_examples("part_a.txt"), ([], 16))

    def test_part_b(self):
        self.gives(wrong_examples("part_b.txt"), ([], 33))

    def test_part_c(self):
        self.gives(wrong_examples("part_c.txt"), ([], 25))

    def test_part_d(self):
        self.gives(wrong_examples("part_d.txt"), ([], 25))

    def test_part_e(self):
        self.gives(wrong_examples("part_e.txt"), ([], 29))

    def test_part_f(self):
        self.gives(wrong_examples("part_f.txt"), ([], 26))

    def test_part_g(self):
        self.gives(wrong_examples("part_g.txt"), ([], 22))

    def test_part_h(self):
        self.gives(wrong_examples("part_h.txt"), ([], 25))

    def test_part_i(self):
        self.gives(wrong_examples("part_i.txt"), ([], 29))

    def test_part_j(self):
        self.gives(wrong_examples("part_j.txt"), ([], 26))

    def test_part_k(self):
        self.gives(wrong_examples("part_k.txt"), ([], 13))

    def test_part_l(self):
        self.gives(wrong_examples("part_l.txt"), ([], 7))

    def test_readme(self):
        path = os.path.join(os.path.dirname(FOLDER), "..", "README.md")
        found = doctest.testfile(path, module_relative=False)
        self.gives((found.failed, found.attempted > 10), (0, True))

    def test_reading(self):
        text = ">>> a = 1\n>>> a\n1\n\nwords\n>>> b()\nraises Bad(3)\n"
        self.gives(examples_of(text), [("a = 1", None), ("a", "1"), ("b()", "raises Bad(3)")])


class Steady(Case):
    """The checks of steady find what they look for."""

    def tearDown(self):
        INTERFACE["terms"].pop("probe", None)

    def probe(self, function):
        module = support.importlib.import_module("onlywith.terms")
        module.probe = function
        INTERFACE["terms"]["probe"] = ("value",)
        try:
            return steady("terms", "probe")
        finally:
            del module.probe

    def test_right(self):
        self.gives(self.probe(lambda value: (value,))([3]), ([3],))

    def test_other_name(self):
        with self.assertRaises(TypeError):
            self.probe(lambda other: other)(3)

    def test_other_results(self):
        count = []

        def counted(value):
            count.append(value)
            return len(count)

        with self.assertRaises(AssertionError):
            self.probe(counted)(3)

    def test_change_of_what_is_passed(self):
        with self.assertRaises(AssertionError):
            self.probe(lambda value: value.clear())([3])

    def test_spoilt(self):
        value = ((1, ("a", 2)), ((), None))
        self.gives(paths_of(value), [(), (0,), (0, 0), (0, 1), (0, 1, 0), (0, 1, 1), (1,), (1, 0), (1, 1)])
        self.gives([at_path(value, path) for path in ((), (0, 1, 1), (1, 0))], [value, 2, ()])
        self.gives(with_at(value, (0, 1, 0), [3]), ((1, ([3], 2)), ((), None)))
        chance = random.Random(1)
        some = {repr(spoilt(chance, value)) for _ in range(300)}
        self.gives((len(some) > 80, any("True" in text for text in some), any("[" in text for text in some)), (True, True, True))

    def test_any_values(self):
        self.gives(max(len(repr(value)) for value in ANY) > 19000, True)
        self.gives(len({repr(value) for value in ANY}), len(ANY))


if __name__ == "__main__":
    unittest.main()
