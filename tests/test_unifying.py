"""Tests of onlywith.unifying: [A11] to [A13]."""

import itertools
import random
import unittest

from onlywith.terms import is_variable
from support import Case, steady

marked = steady("unifying", "marked")
unified = steady("unifying", "unified")
fits = steady("unifying", "fits")
matched = steady("terms", "matched")


class Marked(Case):
    def test_numbers(self):
        self.gives(marked(("?f", 3, "bo", "?f"), 12), ("?f.12", 3, "bo", "?f.12"))
        self.gives(marked(("?a", "?xyz"), 0), ("?a.0", "?xyz.0"))
        self.gives(marked(("?a", 10 ** 9), 10 ** 9), ("?a.1000000000", 10 ** 9))

    def test_without_variables(self):
        self.gives(marked((), 5), ())
        self.gives(marked((0, "a"), 5), (0, "a"))

    def test_makes_variables(self):
        for number in (0, 7, 10 ** 9):
            self.gives([is_variable(term) for term in marked(("?a", "?abc"), number)], [True, True])


def classes_of(equations):
    """The sets of terms that are alike, by joining sets as long as two of them meet."""
    groups = []
    for pair in equations:
        group = set(pair)
        for other in [one for one in groups if one & group]:
            groups.remove(other)
            group = group | other
        groups.append(group)
    return groups


def unified_by_classes(equations):
    """What [A12] tells, from the classes; ("raises", place) for the error."""
    for place in range(len(equations)):
        for group in classes_of(equations[:place + 1]):
            if len([term for term in group if not is_variable(term)]) > 1:
                return ("raises", place)
    pairs = []
    for group in classes_of(equations):
        values = [term for term in group if not is_variable(term)]
        variables = sorted(term for term in group if is_variable(term))
        pairs += [(variable, (values or variables)[0]) for variable in variables]
    return tuple(sorted(pairs, key=lambda pair: pair[0]))


def some_name(number):
    """Unlike variables for unlike numbers below 26 ** 3, ascending with them."""
    return "?" + "".join(chr(97 + number // 26 ** place % 26) for place in (2, 1, 0))


class Unified(Case):
    def test_values_alone(self):
        self.gives(unified(()), ())
        self.gives(unified(((3, 3), ("a", "a"))), ())
        self.raises("NoUnifier", {"place": 0}, unified, ((3, "a"),))
        self.raises("NoUnifier", {"place": 1}, unified, ((3, 3), ("a", "b")))

    def test_itself(self):
        self.gives(unified((("?a", "?a"),)), (("?a", "?a"),))
        self.gives(unified((("?b", "?b"), ("?a", 0))), (("?a", 0), ("?b", "?b")))

    def test_least_variable(self):
        expected = (("?a", "?a"), ("?b", "?a"), ("?c", "?a"))
        for equations in itertools.permutations((("?c", "?b"), ("?b", "?a"), ("?c", "?a"))):
            self.gives(unified(equations), expected)
        self.gives(unified((("?x.7", "?x.10"), ("?xa", "?x.7"))), (("?x.10", "?x.10"), ("?x.7", "?x.10"), ("?xa", "?x.10")))

    def test_value_ahead_of_variables(self):
        for equations in itertools.permutations((("?b", "?a"), ("z", "?c"), ("?a", "?c"))):
            self.gives(unified(equations), (("?a", "z"), ("?b", "z"), ("?c", "z")))

    def test_variables_of_one_value(self):
        self.gives(unified((("?a", 5), (5, "?b"))), (("?a", 5), ("?b", 5)))
        self.raises("NoUnifier", {"place": 3}, unified, (("?a", 5), (5, "?b"), ("?c", 6), ("?a", "?c")))

    def test_first_of_several_places(self):
        wrong = (("?a", 3), ("?b", 4), ("?c", "?a"), ("?b", "?c"), ("bo", 1), ("?a", 9))
        self.raises("NoUnifier", {"place": 3}, unified, wrong)
        self.raises("NoUnifier", {"place": 2}, unified, wrong[:2] + wrong[4:])
        self.raises("NoUnifier", {"place": 1}, unified, (wrong[0], wrong[5]) + wrong)

    def test_long_chains(self):
        many = 3000
        names = [some_name(number) for number in range(many)]
        chain = [(names[place], names[place + 1]) for place in range(many - 1)]
        turned = [pair[::-1] for pair in chain]
        mixed = chain[:]
        random.Random(3).shuffle(mixed)
        for equations in (chain, turned, chain[::-1], turned[::-1], mixed):
            self.gives(unified(tuple(equations)), tuple((name, names[0]) for name in names))
            self.gives(unified((*equations, (names[-1], 7)))[-1], (names[-1], 7))
            self.gives(unified(((7, names[-1]), *equations)), tuple((name, 7) for name in names))
            self.raises("NoUnifier", {"place": many}, unified, ((names[0], 7), *equations, (names[-1], 8), (1, 2)))

    def test_order_turns_and_doubles(self):
        equations = (("?c", "?d"), ("?a", 4), ("?d", "?e"), ("?b", "?a"), ("?f", "?f"))
        expected = (("?a", 4), ("?b", 4), ("?c", "?c"), ("?d", "?c"), ("?e", "?c"), ("?f", "?f"))
        for order in itertools.permutations(equations):
            self.gives(unified(order), expected)
            self.gives(unified(tuple(pair[::-1] for pair in order) + order), expected)

    def test_some_of_all_sorts(self):
        terms = ["?a", "?b", "?c", "?c.1", "?c.10", "?d", 3, -1, "a"]
        numbers = random.Random(11)
        raised = 0
        for _ in range(3000):
            equations = tuple((numbers.choice(terms), numbers.choice(terms)) for _ in range(numbers.randrange(8)))
            expected = unified_by_classes(equations)
            if expected[:1] == ("raises",):
                self.raises("NoUnifier", {"place": expected[1]}, unified, equations)
                raised += 1
            else:
                self.gives(unified(equations), expected)
        self.gives(100 < raised < 2900, True)


class Fits(Case):
    def test_lengths(self):
        self.gives([fits((), ()), fits(("?x",), ()), fits((), (3,)), fits(("?x", "?x"), ("?x",))], [True, False, False, False])

    def test_values(self):
        self.gives([fits((3,), (3,)), fits((3,), (4,)), fits((3,), ("a",)), fits(("a", 3), ("a", "?x"))], [True, False, False, True])

    def test_same_variables_are_apart(self):
        self.gives(fits(("?x", 5), (4, "?x")), True)
        self.gives(fits(("?x", "?y"), ("?y", "?x")), True)
        self.gives(fits(("?x", 4, "?x"), ("?x", "?x", 5)), False)

    def test_marked_variables_are_apart(self):
        self.gives(fits(("?x.0", 5, "?x"), (4, "?x.0", 3)), True)
        self.gives(fits(("?x.0", 5), (4, "?x")), True)
        self.gives(fits(("?x.1", 5), (4, "?x.1")), True)
        self.gives(fits(("?x.0", "?x"), (4, 5)), True)
        self.gives(fits(("?x.0", "?x.1"), (4, 5)), True)
        self.gives(fits(("?x.1", "?x.1"), (4, 5)), False)

    def test_all_small_ones(self):
        values = [0, "a", 9]
        for many in range(4):
            rows = list(itertools.product(values, repeat=many))
            patterns = list(itertools.product([0, "a", "?x", "?y"], repeat=many))
            lets = {pattern: {row for row in rows if matched(pattern, row, ()) is not None} for pattern in patterns}
            for pattern, other in itertools.combinations_with_replacement(patterns, 2):
                expected = bool(lets[pattern] & lets[other])
                self.gives((fits(pattern, other), fits(other, pattern)), (expected, expected))

    def test_long_ones(self):
        names = tuple(some_name(number) for number in range(1500))
        self.gives(fits(names[:-1] + names[:1], names[1:] + names[-1:]), True)
        self.gives(fits(names[:-1] + ("?aaa", 3), names[:-2] + ("?aaa", "?aaa", 4)), False)


if __name__ == "__main__":
    unittest.main()
