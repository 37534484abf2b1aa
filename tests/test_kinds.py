"""Tests of onlywith.kinds: [G2], [G3]."""

import itertools
import unittest

from support import Case, steady

constants_of = steady("kinds", "constants_of")
kinds_of = steady("kinds", "kinds_of")
kind_of = steady("kinds", "kind_of")
shape = steady("kinds", "shape")

NAMES = ["?a", "?b", "?c", "?d", "?e", "?f", "?g", "?h"]
MANY = ("TooMany", {"limit": 2000})


def template(many, tests=(), says=(), wants=(), constants=()):
    """A wish with so many variables, and a pattern with constants."""
    patterns = [("r", tuple(NAMES[:many][:4])), ("r", tuple(NAMES[:many][4:]))]
    patterns = tuple(pattern for pattern in patterns if pattern[1]) + tuple(("s", (value,)) for value in constants)
    return ((patterns or (("s", (0,)),), tuple(tests)), tuple(says), tuple(wants), ())


class Constants(Case):
    def test_where_they_stand(self):
        value = (
            ((("r", ("?a", 4, "bo")),), (("=", "?a", 20), ("!=", "zed", 3))), (("say", (-5, "?a")),), (("want", ("cy", 10)),),
            (("in", "r", ("never", 99, 1)),),
        )
        self.gives(constants_of((value,)), (-5, 3, 4, 10, 20, "bo", "cy", "zed"))
        self.gives(constants_of((template(2), value, template(1, says=[("x", (4, 0))]))), (-5, 0, 3, 4, 10, 20, "bo", "cy", "zed"))

    def test_none(self):
        self.gives(constants_of((template(3), template(1))), ())

    def test_numbers_ahead_of_words(self):
        self.gives(constants_of((template(1, constants=("b", 10, "a", -1, "b", 9)),)), (-1, 9, 10, "a", "b"))


def tuples(many, constants):
    """All tuples of items, by trying all items out and looking at their classes."""
    found = []
    for items in itertools.product(list(constants) + [(at,) for at in range(many)], repeat=many):
        classes = [item[0] for item in items if isinstance(item, tuple)]
        if all(number <= max(classes[:at], default=-1) + 1 for at, number in enumerate(classes)):
            found.append(items)
    return found


class Kinds(Case):
    def test_no_variables(self):
        self.gives(kinds_of((template(0),), 0), ((),))
        self.gives(kinds_of((template(0, [("=", 1, 1)]),), 0), ((),))
        self.gives(kinds_of((template(0, [("=", 1, 2)]),), 0), ())
        self.gives(kinds_of((template(0, [("!=", "a", 1)]), template(3)), 0), ((),))

    def test_order(self):
        self.gives(kinds_of((template(2, constants=(5, "bo", -3)),), 0), (
            (-3, -3), (-3, 5), (-3, "bo"), (-3, (0,)), (5, -3), (5, 5), (5, "bo"), (5, (0,)), ("bo", -3), ("bo", 5), ("bo", "bo"), ("bo", (0,)),
            ((0,), -3), ((0,), 5), ((0,), "bo"), ((0,), (0,)), ((0,), (1,))))

    def test_all_tuples(self):
        for many in range(5):
            for constants in ((), (1,), (1, "a"), (1, "a", "b")):
                found = kinds_of((template(many, constants=constants),), 0)
                self.gives(found, tuple(tuples(many, constants)) if constants or many else ((),))

    def test_constants_of_other_templates(self):
        self.gives(kinds_of((template(1), template(2, says=[("a", ("?a", 7))])), 0), ((7,), ((0,),)))

    def test_tests(self):
        for tests, expected in (
            ([("=", "?a", "?b")], ((1, 1), ((0,), (0,)))), ([("!=", "?a", "?b")], ((1, (0,)), ((0,), 1), ((0,), (1,)))),
            ([("=", "?a", 1)], ((1, 1), (1, (0,)))), ([("!=", 1, "?b")], ((1, (0,)), ((0,), (0,)), ((0,), (1,)))),
            ([("=", 1, 1)], ((1, 1), (1, (0,)), ((0,), 1), ((0,), (0,)), ((0,), (1,)))), ([("!=", 1, 1)], ()), ([("!=", "?a", "?a")], ()),
            ([("=", "?a", "?b"), ("!=", "?a", 1)], (((0,), (0,)),)), ([("=", "?a", "?b"), ("!=", "?a", "?b")], ()),
        ):
            self.gives(kinds_of((template(2, tests, constants=(1,)),), 0), expected)

    def test_bound(self):
        # Bell numbers: 877 for seven variables, 4140 for eight.
        self.gives(len(kinds_of((template(7),), 0)), 877)
        self.raises(*MANY, kinds_of, (template(8),), 0)
        self.gives(len(kinds_of((template(5, constants=(1, 2, 3)),), 0)), 1915)
        self.raises(*MANY, kinds_of, (template(5, constants=(1, 2, 3, 4)),), 0)
        self.raises(*MANY, kinds_of, (template(6, constants=(1, 2)),), 0)
        self.gives(len(kinds_of((template(6, constants=(1,)),), 0)), 877)

    def test_tests_do_not_count_for_the_bound(self):
        tests = [("=", "?a", name) for name in NAMES[1:7]]
        self.raises(*MANY, kinds_of, (template(8, tests),), 0)
        self.raises(*MANY, kinds_of, (template(8, [("=", 1, 2)]),), 0)
        self.gives(kinds_of((template(7, tests),), 0), (((0,),) * 7,))
        self.gives(kinds_of((template(7, tests), template(8)), 0), (((0,),) * 7,))
        self.raises(*MANY, kinds_of, (template(7, tests), template(8)), 1)

    def test_very_many_variables(self):
        letters = "abcdefghijklmnopqrstuvwxyz"
        names = ["?" + one for one in letters] + ["?a" + one for one in letters]
        body = (tuple(("r", tuple(names[6 * at:6 * at + 6])) for at in range(6)), ())
        self.raises(*MANY, kinds_of, ((body, (), (), ()),), 0)


class KindOf(Case):
    def test_free_values_in_any_order(self):
        templates = (template(5, constants=(3, "bo")),)
        self.gives(kind_of(templates, 0, (9, "zed", 3, 9, "bo")), ((0,), (1,), 3, (0,), "bo"))
        self.gives(kind_of(templates, 0, (-1, -1, -1, -1, -1)), ((0,),) * 5)
        self.gives(kind_of(templates, 0, (5, 4, 3, 2, 1)), ((0,), (1,), 3, (2,), (3,)))
        self.gives(kind_of(templates, 0, (3, "bo", 3, "bo", 3)), (3, "bo", 3, "bo", 3))
        self.gives(kind_of((template(0),), 0, ()), ())

    def test_constants_of_other_templates(self):
        self.gives(kind_of((template(1), template(1, wants=[("a", (7,))])), 0, (7,)), (7,))
        self.gives(kind_of((template(1), template(1)), 1, (7,)), ((0,),))

    def test_each_filling_has_one_of_the_kinds(self):
        templates = (template(4, [("!=", "?a", "?b"), ("!=", "?c", 1)], constants=(1, "a")),)
        found = {}
        for filling in itertools.product([1, "a", 5, 6, "b", "c"], repeat=4):
            if filling[0] != filling[1] and filling[2] != 1:
                kind = kind_of(templates, 0, filling)
                found[kind] = True
                self.gives([one == other for one, other in itertools.combinations(kind, 2)],
                           [one == other for one, other in itertools.combinations(filling, 2)])
        self.gives(sorted(map(repr, found)), sorted(map(repr, kinds_of(templates, 0))))


class Shape(Case):
    def test_numbered_anew(self):
        templates = (template(4, constants=(1, "bo")),)
        kind = ((0,), "bo", (1,), (2,))
        for pattern, expected in (
            (("?d", "?a", "?c", "?d"), ((0,), (1,), (2,), (0,))), (("?c", 5, "?b", "?c"), ((0,), 5, "bo", (0,))), ((), ()),
            (("?b", "?b"), ("bo", "bo")), (("?a", "?c", "?d"), ((0,), (1,), (2,))), ((7, "x", "?d"), (7, "x", (0,))),
        ):
            self.gives(shape(templates, 0, kind, pattern), expected)

    def test_of_the_template_at_the_place(self):
        templates = (template(1), ((((("r", ("?b", "?a", "?x")),)), ()), (), (), ()))
        self.gives(shape(templates, 1, ((0,), (1,), (1,)), ("?x", "?b", "?a")), ((0,), (0,), (1,)))


if __name__ == "__main__":
    unittest.main()
