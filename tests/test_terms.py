"""Tests of onlywith.terms: [A4] to [A10]."""

import itertools
import unittest

from support import ANY, ODD, TUPLES, VALUES, VARIABLES, Case, steady

is_value = steady("terms", "is_value")
is_variable = steady("terms", "is_variable")
value_rank = steady("terms", "value_rank")
row_rank = steady("terms", "row_rank")
variables_of = steady("terms", "variables_of")
filled = steady("terms", "filled")
known_row = steady("terms", "known_row")
matched = steady("terms", "matched")

PRINTABLE = [chr(code) for code in range(32, 127)] + ["\n"]
SMALL = "abcdefghijklmnopqrstuvwxyz"


class Kinds(Case):
    """is_value, is_variable."""

    def test_values(self):
        for value in VALUES:
            self.gives((is_value(value), is_variable(value)), (True, False))

    def test_variables(self):
        for value in VARIABLES:
            self.gives((is_value(value), is_variable(value)), (False, True))

    def test_neither(self):
        for value in ODD + TUPLES:
            self.gives((is_value(value), is_variable(value)), (False, False))

    def test_bounds_of_numbers(self):
        bound = 10 ** 9
        found = [is_value(number) for number in (-bound - 1, -bound, 1 - bound, bound - 1, bound, bound + 1)]
        self.gives(found, [False, True, True, True, True, False])

    def test_bools_are_not_numbers(self):
        self.gives([is_value(value) for value in (1, True, 0, False, 1)], [True, False, True, False, True])

    def test_lengths_of_words(self):
        self.gives([is_value("w" * many) for many in (0, 1, 2, 11, 12, 13, 14)], [False] + [True] * 4 + [False] * 2)

    def test_signs_of_words(self):
        for sign in PRINTABLE:
            for word in (sign, "a" + sign, sign + "a", "a" + sign + "a"):
                self.gives(is_value(word), sign in SMALL)

    def test_signs_of_variables(self):
        for sign in PRINTABLE:
            for variable in ("?" + sign, "?a" + sign, "?" + sign + "a"):
                self.gives(is_variable(variable), sign in SMALL)
            for variable in ("?a." + sign, "?a.1" + sign, "?a.3" + sign + "7"):
                self.gives(is_variable(variable), sign in "0123456789")

    def test_signs_beyond_ascii(self):
        for sign in ("\xe4", "\xb2", "\u0663", "\u03b1"):
            self.gives((is_value(sign), is_value("a" + sign)), (False, False))
            self.gives((is_variable("?" + sign), is_variable("?x." + sign), is_variable("?x.1" + sign)), (False, False, False))

    def test_first_sign_of_a_variable(self):
        for sign in PRINTABLE:
            self.gives(is_variable(sign + "x"), sign == "?")

    def test_lengths_of_variables(self):
        for mark in ("", ".0", ".123"):
            found = [is_variable("?" + "x" * many + mark) for many in range(6)]
            self.gives(found, [False, True, True, True, False, False])

    def test_marks(self):
        right = ["0", "1", "9", "10", "90", "999999999", "1000000000"]
        wrong = ["", "00", "01", "010", "0000000001", "1000000001", "9999999999", "10000000000", "1" * 5000, "-0", "1."]
        self.gives([is_variable("?x." + mark) for mark in right], [True] * len(right))
        self.gives([is_variable("?x." + mark) for mark in wrong], [False] * len(wrong))


class Ranks(Case):
    """value_rank, row_rank."""

    def test_value_rank(self):
        self.gives([value_rank(value) for value in (0, -7, 10 ** 9)], [(0, 0), (0, -7), (0, 10 ** 9)])
        self.gives([value_rank(value) for value in ("a", "bo")], [(1, "a"), (1, "bo")])

    def test_row_rank(self):
        self.gives(row_rank(()), ())
        self.gives(row_rank(("b", 3, "b")), ((1, "b"), (0, 3), (1, "b")))

    def test_order_of_values(self):
        ascending = [-10 ** 9, -10, -9, 0, 1, 2, 10, 10 ** 9, "a", "aa", "ab", "b", "ba", "z"]
        self.gives(sorted(reversed(ascending), key=value_rank), ascending)

    def test_order_of_rows(self):
        ascending = [
            (), (-7, 9), (3,), (3, 4), (3, 4, 0), (3, "a"), (3, "a", -1), (10,), (10, 2), ("a",), ("a", 5), ("a", "a"),
            ("aa",), ("bo",),
        ]
        for rows in itertools.permutations(ascending, 2):
            self.gives(row_rank(rows[0]) < row_rank(rows[1]), ascending.index(rows[0]) < ascending.index(rows[1]))


class Patterns(Case):
    """variables_of, filled, known_row."""

    def test_variables_of(self):
        self.gives(variables_of(()), ())
        self.gives(variables_of((3, "bo", 0)), ())
        self.gives(variables_of(("?b", "?a", "?b", 3, "a", "?a")), ("?a", "?b"))
        self.gives(variables_of(("?x.7", "?x", "?x.10", "?xa", "?x")), ("?x", "?x.10", "?x.7", "?xa"))

    def test_filled(self):
        known = (("?d", "may"), ("?n", 0), ("?x.3", -1))
        self.gives(filled((), known), ())
        self.gives(filled(("?d", 3), ()), ("?d", 3))
        self.gives(filled(("?f", "?f", 1), known), ("?f", "?f", 1))
        self.gives(filled(("?d", "?f", "?n", "?d", "?x.3", "?x", "d", 5), known),
                   ("may", "?f", 0, "may", -1, "?x", "d", 5))

    def test_known_row(self):
        known = (("?a", 1), ("?f", 7), ("?f.2", "bo"))
        self.gives(known_row(known, ()), ())
        self.gives(known_row((), ()), ())
        self.gives(known_row(known, ("?f.2", "?f", "?a", "?f")), ("bo", 7, 1, 7))


def matched_by_trying(pattern, row, known):
    """What [A10] tells, by trying all knowns of the values of row and known."""
    had = dict(known)
    names = sorted(set(had) | {term for term in pattern if is_variable(term)})
    values = list(row) + list(had.values())
    for choice in itertools.product(values, repeat=len(names)):
        other = tuple(zip(names, choice))
        if all(dict(other)[name] == had[name] for name in had) and filled(pattern, other) == row:
            return other
    return None


class Matched(Case):
    def test_known_within(self):
        known = (("?a", 1), ("?x.3", "bo"))
        self.gives(matched((), (), known), known)
        self.gives(matched((5,), (5,), known), known)
        self.gives(matched(("?a", "?m"), (1, 2), known), (("?a", 1), ("?m", 2), ("?x.3", "bo")))
        self.gives(matched(("?x.3", "?x.3"), ("bo", "bo"), known), known)

    def test_none(self):
        known = (("?a", 1),)
        for pattern, row in ((("?a",), (2,)), ((3,), (4,)), (("a",), (1,)), ((1,), ("a",)), (("?a",), ("a",))):
            self.gives(matched(pattern, row, known), None)
        self.gives(matched(("?b", "?b"), (1, 2), known), None)
        self.gives(matched(("?b", "?b"), (0, "a"), ()), None)

    def test_lengths(self):
        for pattern, row in (((), (1,)), (("?x",), ()), (("?x",), (1, 1)), (("?x", "?x"), (1,)), ((1, 2), (1,))):
            self.gives(matched(pattern, row, ()), None)
            self.gives(matched(pattern, row, (("?x", 1),)), None)

    def test_empty_known_is_not_none(self):
        self.gives(matched((), (), ()), ())
        self.gives(matched((0, "a"), (0, "a"), ()), ())

    def test_ascending(self):
        self.gives(matched(("?c", "?a", "?b"), (3, 1, "b"), ()), (("?a", 1), ("?b", "b"), ("?c", 3)))
        self.gives(matched(("?x.7", "?x.10"), (1, 2), (("?x", 5),)), (("?x", 5), ("?x.10", 2), ("?x.7", 1)))

    def test_all_small_ones(self):
        knowns = [(), (("?a", 0),), (("?a", "a"), ("?c", 0)), (("?c", 1),)]
        for many in range(3):
            for pattern in itertools.product([0, "a", "?a", "?b"], repeat=many):
                for row in itertools.product([0, "a"], repeat=many):
                    for known in knowns:
                        self.gives(matched(pattern, row, known), matched_by_trying(pattern, row, known))


class Anything(Case):
    def test_any_value_is_taken(self):
        for value in ANY:
            self.gives(is_value(value) and is_variable(value), False)


if __name__ == "__main__":
    unittest.main()
