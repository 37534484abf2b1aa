"""Tests of onlywith.copies: [G7]."""

import itertools
import random
import unittest

from onlywith.errors import TooMany
from support import Case, steady

least_copies = steady("copies", "least_copies")
can_ever = steady("ever", "can_ever")
ever_lot = steady("ever", "ever_lot")
constants_of = steady("kinds", "constants_of")
question_variables = steady("questions", "question_variables")
said = steady("wishes", "said")
wanted = steady("wishes", "wanted")

NAMES = ["?a", "?b", "?c", "?d", "?e", "?f", "?g"]
TOO_MANY = ("TooMany", {"limit": 6})
WORDS = ["wa", "wb", "wc", "wd", "we", "wf"]


def template(variables, says=(), wants=(), tests=()):
    """A wish that asks for facts that have its variables, or the values in their place."""
    pairs = [tuple(variables[at:at + 2]) for at in range(0, len(variables), 2)]
    return (tuple(("fact" + "ab"[len(pair) - 1], pair) for pair in pairs), tuple(tests)), tuple(says), tuple(wants), ()


def unlike(variables, most=6):
    """Tests that variables are unlike, at most so many of them."""
    return [("!=",) + pair for pair in itertools.combinations(variables, 2)][:most]


def shift(many, tests=()):
    """A template that wants its values shifted by one place."""
    names = NAMES[:many]
    return template(names, [("r", tuple(names))], [("r", tuple(names[1:] + names[:1]))], tests)


def chain(many, last=()):
    """Templates each of which wants what the next one says; the last one says and wants further things."""
    found = [template(["?a"], [(WORDS[at], ("?a",))], [(WORDS[at + 1], ("?a",))]) for at in range(many - 1)]
    return tuple(found) + (template(["?a"], ((WORDS[many - 1], ("?a",)),) + tuple(last), last),)


def fillings_over(wish, values):
    """All fillings over some values with which the tests of a template hold."""
    variables = question_variables(wish[0])
    for row in itertools.product(values, repeat=len(variables)):
        known = dict(zip(variables, row))
        if all((known.get(one, one) == known.get(other, other)) == (sign == "=") for sign, one, other in wish[0][1]):
            yield row


def are_made(copies):
    """Whether each want of each copy is a saying of another one."""
    return all(
        any(want in other[1] for further, other in enumerate(copies) if further != at)
        for at, copy in enumerate(copies) for want in copy[2]
    )


def tried_out(templates, place, most):
    """The least number of copies up to most, by going through all tuples of places and fillings; or None."""
    for many in range(1, most + 1):
        values = list(constants_of(templates)) + ["xa", "xb", "xc", "xd", "xe"][:min(2 * many, 4)]
        copies = [
            (at, said(wish, row), wanted(wish, row)) for at, wish in enumerate(templates) for row in fillings_over(wish, values)
        ]
        for first in copies:
            if first[0] == place:
                for rest in itertools.combinations_with_replacement(copies, many - 1):
                    if are_made((first,) + rest):
                        return many
    return None


def drawn_templates(chance):
    """A few templates with one or two variables each."""
    constants = chance.choice(((), (), (1,), ("anna",)))
    words = chance.choice(("a", "ab", "abc"))
    templates = []
    for _ in range(chance.choice((1, 2, 2, 3))):
        names = NAMES[:chance.choice((1, 2, 2))]
        terms = names * 2 + list(constants)

        def spoken(most):
            many = chance.choice(most)
            return [(chance.choice(words), tuple(chance.choice(terms) for _ in range(chance.choice((1, 2, 2))))) for _ in range(many)]

        tests = [(chance.choice(("=", "!=", "!=")), chance.choice(terms), chance.choice(terms)) for _ in range(chance.choice((0, 0, 1, 2)))]
        templates.append(template(names, spoken((1, 2, 2, 3)), spoken((0, 1, 1, 2, 2)), tests))
    return tuple(templates)


class LeastCopies(Case):
    def test_alone(self):
        self.gives(least_copies((template(["?a"]),), 0), 1)
        self.gives(least_copies((template(["?a"], [("x", ("?a",))]), template(["?b"], (), [("x", (3,))])), 0), 1)
        self.gives(least_copies((template(["?a"], [("x", ("?a",))]), template(["?b"], (), [("x", (3,))])), 1), 2)

    def test_same_filling_twice(self):
        self.gives(least_copies((template(["?a"], [("hi", ("?a",))], [("hi", ("?a",))]),), 0), 2)
        self.gives(least_copies((template([1], [("hi", ())], [("hi", ())]),), 0), 2)

    def test_rings_that_pass_a_value_on(self):
        for many in range(2, 7):
            ring = tuple(
                template(["?a"], [(WORDS[at], ("?a",))], [(WORDS[(at + 1) % many], ("?a",))]) for at in range(many)
            )
            self.gives([least_copies(ring, place) for place in range(many)], [many] * many)

    def test_rings_that_turn_two_values_about(self):
        for tests in ((), unlike(NAMES[:2])):
            self.gives(least_copies((shift(2, tests),), 0), 2)
        # Around the ring of six the two values come back turned about, so it takes them twice.
        for tests, expected in (([], 6), (unlike(NAMES[:2]), None)):
            ring = tuple(
                template(["?a", "?b"], [(WORDS[at], ("?a", "?b"))], [(WORDS[(at + 1) % 6], ("?a", "?b") if at else ("?b", "?a"))], tests)
                for at in range(6)
            )
            if expected is None:
                self.raises(*TOO_MANY, least_copies, ring, 0)
            else:
                self.gives(least_copies(ring, 0), expected)

    def test_rings_that_shift(self):
        for many, most, expected in ((3, 0, 2), (3, 1, 3), (3, 3, 3), (4, 0, 2), (4, 1, 2), (4, 3, 4), (5, 0, 2), (5, 1, 5), (6, 1, 2), (6, 3, 6)):
            self.gives(least_copies((shift(many, unlike(NAMES[:many], most)),), 0), expected)
        # a and b turn about while c, d, e shift.
        both = template(NAMES[:5], [("r", tuple(NAMES[:5]))], [("r", ("?b", "?a", "?d", "?e", "?c"))], [("!=", "?a", "?b"), ("!=", "?c", "?d")])
        self.gives(least_copies((both,), 0), 6)

    def test_seven_variables(self):
        names = NAMES
        both = template(names, [("p", tuple(names[:3])), ("q", tuple(names[3:]))], [("p", ("?b", "?c", "?a")), ("q", ("?e", "?f", "?g", "?d"))], unlike(names[:3]) + [("!=", "?d", "?f")])
        # The three and the four can be passed on by unlike copies.
        self.gives(least_copies((both,), 0), 4)

    def test_path(self):
        ring = template(NAMES[:3], [("link", ("?a", "?b"))], [("link", ("?b", "?c"))], unlike(NAMES[:3]))
        self.gives(least_copies((ring,), 0), 3)
        self.gives(least_copies((template(NAMES[:2], [("link", ("?a", "?b"))], [("link", ("?b", "?a"))], unlike(NAMES[:2])),), 0), 2)

    def test_several_wants_of_one_other(self):
        names = NAMES[:4]
        spoken = [(WORDS[at], (names[at], names[(at + 1) % 4])) for at in range(4)]
        hub = template(names, [("hub", tuple(names))], spoken, unlike(names))
        self.gives(least_copies((hub, template(names, spoken, [("hub", tuple(names))])), 0), 2)
        self.gives(least_copies((hub, template(names, spoken, [("hub", tuple(names[::-1]))])), 0), 4)
        # Each other one says but one of the things.
        some = tuple(template(names[:2], [(WORDS[at], ("?a", "?b"))]) for at in range(4))
        self.gives([least_copies((hub,) + others, 0) for others in (some, some[::-1])], [5, 5])
        self.gives(least_copies((hub,) + some[:3], 0), None)

    def test_neighbours(self):
        """Each copy is a knot of a graph, with three or four neighbours that are unlike."""
        for many, own in ((3, 3), (4, 0)):
            names = NAMES[1:many + 1]
            tests = unlike(names) + [("!=", "?a", name) for name in names[:own]]
            knot = template(["?a"] + names, [("e", ("?a", name)) for name in names], [("e", (name, "?a")) for name in names], tests)
            self.gives(least_copies((knot,), 0), many + 1)

    def test_chains(self):
        for many in range(1, 7):
            self.gives([least_copies(chain(many), place) for place in range(many)], list(range(many, 0, -1)))

    def test_six_and_seven(self):
        twice = [("again", ("?a",))]
        self.gives(least_copies(chain(5, twice), 0), 6)
        self.gives(least_copies(chain(6, twice), 1), 6)
        self.raises(*TOO_MANY, least_copies, chain(6, twice), 0)

    def test_none(self):
        self.gives(least_copies(chain(3)[:2], 0), None)
        lost = (template(["?a"], [("x", ("?a",))], [("y", (3,))]), template(["?a"], [("y", ("?a",))], tests=[("!=", "?a", 3)]))
        self.gives([least_copies(lost, place) for place in range(2)], [None, 1])
        self.gives(least_copies((template(["?a"], tests=[("!=", "?a", "?a")]), template([1])), 0), None)

    def test_equal_variables(self):
        same = template(["?a", "?b"], [("x", ("?a", "?b"))], [("y", ("?a", "?b"))], [("=", "?b", "?a")])
        for row, expected in ((("?a", "?b"), 2), (("?a", "?a"), 2), ((1, "?a"), 2), ((1, 2), None)):
            self.gives(least_copies((same, template(["?a", "?b"], [("y", row)])), 0), expected)

        # Two values are passed about between two templates; with the test each copy of the first one has but one.
        for tests, expected in (([], 2), ([("=", "?a", "?b")], 4)):
            first = template(["?a", "?b"], [("x", ("?a",))], [("y", ("?b",))], tests)
            second = template(["?a", "?b"], [("y", ("?a",))], [("x", ("?b",))], [("!=", "?a", "?b")])
            self.gives([least_copies((first, second), place) for place in range(2)], [expected] * 2)

    def test_bodies_and_writes_are_not_looked_at(self):
        names = tuple(NAMES[:3])
        body = (tuple(("other", names) for _ in range(6)), tuple(unlike(names)))
        value = (body, (("link", names[:2]),), (("link", names[1:]),), (("in", "fact", (3,)), ("out", "fact", (3,))))
        self.gives(least_copies((value,), 0), 3)

    def test_six_alike(self):
        ring = template(NAMES[:3], [("link", ("?a", "?b"))], [("link", ("?b", "?c"))], unlike(NAMES[:3]))
        self.gives([least_copies((ring,) * 6, place) for place in (0, 5)], [3, 3])
        renamed = template(["?c", "?b", "?x"], [("link", ("?x", "?b"))], [("link", ("?b", "?c"))], [("!=", "?x", "?b"), ("!=", "?x", "?c"), ("!=", "?b", "?c")])
        self.gives([least_copies((ring, renamed) * 3, place) for place in (0, 5)], [3, 3])
        six = shift(6, unlike(NAMES[:6]))
        self.gives(least_copies((six,) * 6, 3), 6)

    def test_alike_but_for_one_thing(self):
        ring = template(NAMES[:3], [("link", ("?a", "?b"))], [("link", ("?b", "?c"))], unlike(NAMES[:3]))
        free = template(NAMES[:3], [("link", ("?a", "?b"))], [("link", ("?b", "?c"))], unlike(NAMES[:3])[:1])
        end = template(NAMES[:3], [("link", ("?a", "?b"))], (), unlike(NAMES[:3]))
        word = template(NAMES[:3], [("lines", ("?a", "?b"))], [("lines", ("?b", "?c"))], unlike(NAMES[:3]))
        self.gives([least_copies((ring, other), 0) for other in (ring, free, end, word)], [3, 3, 2, 3])
        self.gives([least_copies((ring, other), 1) for other in (ring, free, end, word)], [3, 2, 1, 3])

    def test_too_many_kinds(self):
        eight = template(NAMES + ["?h"], [("x", ())])
        small = template(["?a"], [("hi", ("?a",))], [("hi", ("?a",))])
        for templates in ((eight,), (small, eight), (eight, small)):
            for place in range(len(templates)):
                self.raises("TooMany", {"limit": 2000}, least_copies, templates, place)
        self.gives(least_copies((small,), 0), 2)

    def test_all_tuples(self):
        chance, found = random.Random(71), {}
        for _ in range(350):
            templates = drawn_templates(chance)
            for place in range(len(templates)):
                try:
                    many = least_copies(templates, place)
                except TooMany:
                    many = 7
                self.gives(many is not None, can_ever(templates, place))
                found[many] = found.get(many, 0) + 1
                if many is None:
                    continue
                self.gives(tried_out(templates, place, 3), many if many <= 3 else None)
                self.gives(many <= len(ever_lot(templates, place)[1]) or many == 7, True)
        self.gives(all(found.get(many, 0) > 5 for many in (None, 1, 2, 3)), True)


if __name__ == "__main__":
    unittest.main()
