"""Tests of onlywith.ever: [G1], [G4] to [G6]."""

import itertools
import random
import unittest

from support import ANY, ODD, Case, at_path, paths_of, spoilt, steady, with_at

family = steady("ever", "family")
can_ever = steady("ever", "can_ever")
ever_lot = steady("ever", "ever_lot")
ever_holds = steady("ever", "ever_holds")
kinds_of = steady("kinds", "kinds_of")
shape = steady("kinds", "shape")
constants_of = steady("kinds", "constants_of")
lets_by = steady("questions", "lets_by")
question_variables = steady("questions", "question_variables")
said = steady("wishes", "said")
wanted = steady("wishes", "wanted")
filled = steady("terms", "filled")
fact_rank = steady("stores", "fact_rank")
row_rank = steady("terms", "row_rank")

MANY = ("TooMany", {"limit": 2000})
NAMES = ["?a", "?b", "?c", "?d", "?e", "?f", "?g", "?h"]


def template(pattern, says=(), wants=(), tests=()):
    """A wish with one pattern of the relation r and a width."""
    name = "r" + "abcdefg"[len(pattern)]
    return (((name, pattern),), tuple(tests)), tuple(says), tuple(wants), ()


def eight():
    """A template with so many kinds that they are too many."""
    return (((("ra", ("?a",)), ("rg", tuple(NAMES[1:7])), ("ra", ("?h",))), ()), (), (), ())


def plainly(templates):
    """What family returns, by looking at all cases again and again."""
    left = [(place, kind) for place in range(len(templates)) for kind in kinds_of(templates, place)]
    lines = []

    def told(case, items):
        place, kind = case
        return [(word, shape(templates, place, kind, pattern)) for word, pattern in templates[place][items]]

    while True:
        made = [saying for case in left for saying in told(case, 1)]
        lacks = [(case, [want in made for want in told(case, 2)]) for case in left]
        first = [(case, rights.index(False)) for case, rights in lacks if False in rights][:1]
        if not first:
            return tuple(left), tuple(lines)
        case, want = first[0]
        lines.append(case + (want,))
        left.remove(case)


def drawn_template(chance, words, constants):
    """A wish of a schema without keys, with up to four variables."""
    many = chance.choice((1, 1, 2, 2, 3, 4))
    pattern = tuple(NAMES[:many]) + tuple(constants[:1] if chance.random() < 0.2 else ())
    terms = NAMES[:many] * 2 + list(constants)
    tests = [(chance.choice(("=", "!=", "!=")), chance.choice(terms), chance.choice(terms)) for _ in range(chance.choice((0, 0, 1, 2)))]

    def spoken(most):
        return [(chance.choice(words), tuple(chance.choice(terms) for _ in range(chance.choice((1, 2))))) for _ in range(chance.choice(most))]

    return template(pattern, spoken((1, 2, 3)), spoken((0, 1, 1, 2)), tests)


def drawn_templates(chance):
    constants = chance.choice(((), (), (1,), ("anna",), (1, "bo")))
    words = chance.choice(("ab", "abc"))
    return tuple(drawn_template(chance, words, constants) for _ in range(chance.choice((1, 2, 2, 3))))


def copies_left(templates):
    """The copies over a few values whose wants are all made within them; of each there may be two."""
    values = list(constants_of(templates)) + [("free", "free", "frea", "freb", "frec", "fred")[at] + "xyz" for at in range(1, 5)]
    copies = []
    for place, value in enumerate(templates):
        for filling in itertools.product(values, repeat=len(question_variables(value[0]))):
            known = tuple(zip(question_variables(value[0]), filling))
            facts = sorted({(name, filled(pattern, known)) for name, pattern in value[0][0]}, key=fact_rank)
            if lets_by(((), tuple(facts)), value[0], filling):
                copies.append((place, filling, said(value, filling), wanted(value, filling)))
    while True:
        made = {saying for copy in copies for saying in copy[2]}
        fewer = [copy for copy in copies if made.issuperset(copy[3])]
        if len(fewer) == len(copies):
            return {place for place, _, _, _ in copies}
        copies = fewer


class Family(Case):
    def test_own_wants(self):
        value = template(("?a",), [("hi", ("?a",))], [("hi", ("?a",))])
        self.gives(family((value,)), (((0, ((0,),)),), ()))

    def test_chain_that_ends_in_a_ring(self):
        pairs = [("a", "b"), ("b", "c"), ("c", "d"), ("d", "b")]
        templates = tuple(template(("?a",), [(says, ("?a",))], [(wants, ("?a",))]) for says, wants in pairs)
        self.gives(family(templates), (tuple((place, ((0,),)) for place in range(4)), ()))

    def test_chain_that_ends_in_nothing(self):
        pairs = [("a", "b"), ("b", "c"), ("c", "no")]
        templates = tuple(template(("?a",), [(says, ("?a",))], [(wants, ("?a",))]) for says, wants in pairs)
        self.gives(family(templates), ((), tuple((place, ((0,),), 0) for place in (2, 1, 0))))

    def test_chain_that_ends_in_a_constant(self):
        templates = (template(("?a",), [("x", ("?a",))], [("b", ("?a",))]), template((5,), [("b", (5,))]))
        self.gives(family(templates), (((0, (5,)), (1, ())), ((0, ((0,),), 0),)))

    def test_order_of_striking(self):
        # The last two are struck first; what they said is wanted by the first one.
        templates = (
            template(("?a",), [("x", ())], [("b", ()), ("c", ())]), template(("?a",), [("y", ())], [("x", ())]),
            template(("?a",), [("b", ())], [("no", ())]), template(("?a",), [("c", ())], [("b", ()), ("never", ())]),
        )
        one = ((0,),)
        self.gives(family(templates), ((), ((2, one, 0), (0, one, 0), (1, one, 0), (3, one, 0))))

    def test_first_want_that_is_not_made_then(self):
        templates = (template(("?a",), [("x", ())], [("b", ()), ("no", ())]), template(("?a",), [("b", ())], [("x", ())]))
        self.gives(family(templates), ((), ((0, ((0,),), 1), (1, ((0,),), 0))))

    def test_cases_of_one_template(self):
        # Who is unlike needs who is unlike; who is alike finds nobody.
        value = template(("?a", "?b"), [("r", ("?a", "?b"))], [("r", ("?b", "?a")), ("s", ("?a", "?b"))])
        other = template(("?a", "?b"), [("s", ("?a", "?b"))], tests=[("!=", "?a", "?b")])
        self.gives(family((value, other)), (((0, ((0,), (1,))), (1, ((0,), (1,)))), ((0, ((0,), (0,)), 1),)))

    def test_no_kinds(self):
        self.gives(family((template(("?a",), tests=[("!=", "?a", "?a")]),)), ((), ()))
        self.gives(can_ever((template((1,), tests=[("=", 1, 2)]),), 0), False)

    def test_writes_and_store_are_not_looked_at(self):
        value = (((("ra", ("?a",)),), ()), (), (), (("in", "x", (9, "word")), ("out", "x", (9, "word"))))
        self.gives(family((value,)), (((0, ((0,),)),), ()))

    def test_too_many(self):
        for templates in ((eight(),), (template(("?a",)), eight()), (eight(), template(("?a",)))):
            self.raises(*MANY, family, templates)
            for place in range(len(templates)):
                self.raises(*MANY, can_ever, templates, place)
                self.raises(*MANY, ever_lot, templates, place)

    def test_many_cases(self):
        body = ((("rg", tuple(NAMES[:5]) + (1,)), ("rc", (2, 3))), ())
        self.gives(len(kinds_of(((body, (), (), ()),), 0)), 1915)
        ring = (body, (("s", tuple(NAMES[:5])),), (("s", tuple(NAMES[1:5]) + ("?a",)),), ())
        self.gives([len(part) for part in family((ring,) * 6)], [6 * 1915, 0])
        lost = (body, (("z", ("?a",)),), (("y", ("?a",)),), ())
        needs = (body, (("s", ("?b",)),), (("s", ("?c",)), ("z", ("?a",))), ())
        left, lines = family((needs, needs, needs, lost))
        self.gives((left, len(lines), lines[0]), ((), 4 * 1915, (3, (1,) * 5, 0)))
        # Only when the last case of lost that says z is struck the others with this z come.
        self.gives([place for place, _, _ in lines[-3:]], [2, 2, 2])

    def test_drawn(self):
        chance, found = random.Random(51), {}
        for _ in range(120):
            templates = drawn_templates(chance)
            left, lines = plainly(templates)
            self.gives(family(templates), (left, lines))
            found[(bool(left), min(len(lines), 3))] = True
            for place in range(len(templates)):
                self.gives(can_ever(templates, place), place in {at for at, _ in left})
        self.gives(len(found) > 5, True)

    def test_copies_over_a_few_values(self):
        """[G5]: there is a party exactly if a kind is left."""
        chance, found = random.Random(52), {True: 0, False: 0}
        for _ in range(120):
            templates = drawn_templates(chance)
            there = copies_left(templates)
            for place in range(len(templates)):
                self.gives(can_ever(templates, place), place in there)
                found[place in there] += 1
        self.gives(min(found.values()) > 20, True)


class EverLot(Case):
    def test_none(self):
        templates = (template(("?a",), [("a", ("?a",))], [("no", ())]), template(("?a",)))
        self.gives((ever_lot(templates, 0), ever_lot(templates, 1) is None), (None, False))

    def test_own_wants(self):
        value = template(("?a",), [("hi", ("?a",))], [("hi", ("?a",))])
        facts, copies = ever_lot((value,), 0)
        self.gives((len(facts), len(copies), copies[0] == copies[1]), (1, 2, True))

    def test_free_values_are_no_constants(self):
        value = template(("?a", "?b"), [("r", ("?a",))], [("r", ("?b",))], [("!=", "?a", number) for number in range(3)] + [("!=", "?b", "?a")])
        party = ever_lot((value,), 0)
        self.gives(ever_holds((value,), 0, party), True)

    def test_more_facts_than_a_store_has(self):
        tests = [("!=", one, other) for one, other in itertools.combinations(NAMES[:4], 2)]
        body = ((("rg", tuple(NAMES[:6])), ("rg", tuple(NAMES[1:7]))), tuple(tests))
        pairs = list(itertools.combinations(NAMES[:6], 2))

        def helper(word, further, tests):
            own = (((("qg", tuple(NAMES[:6])),), tuple(("!=", one, other) for one, other in tests)))
            return (own, ((word, tuple(NAMES[:6])),), ((further, tuple(NAMES[:6])),) if further else (), ())

        swap = (NAMES[1], NAMES[0]) + tuple(NAMES[2:6])
        main = (body, (("s", tuple(NAMES[:6])),), (("s", swap), ("s", tuple(NAMES[1:7])), ("h", tuple(NAMES[:6]))), ())
        templates = (main, helper("h", "i", pairs[:6]), helper("i", "j", pairs[6:12]), helper("j", None, pairs[12:]))
        facts, copies = ever_lot(templates, 0)
        self.gives((len(facts) > 400, copies[0][0]), (True, 0))
        self.gives(ever_holds(templates, 0, (facts, copies)), True)
        self.gives(ever_holds(templates, 0, (facts[:500] + facts[501:], copies)), False)
        self.gives(ever_holds(templates, 0, (facts, copies[:-1])), False)

    def test_drawn(self):
        chance, some = random.Random(53), 0
        for _ in range(200):
            templates = drawn_templates(chance)
            for place in range(len(templates)):
                party = ever_lot(templates, place)
                self.gives(party is not None, can_ever(templates, place))
                if party is not None:
                    some += len(party[1]) > 1
                    self.gives((ever_holds(templates, place, party), by_hand(templates, place, party)), (True, True))
                    other = (place + 1) % len(templates)
                    self.gives(ever_holds(templates, other, party), other == place)
        self.gives(some > 50, True)


def by_hand(templates, place, value):
    """Whether a value is a party, as [G1] tells it."""
    if not isinstance(value, tuple) or len(value) != 2 or not all(isinstance(part, tuple) for part in value):
        return False
    facts, copies = value
    widths = {name: len(pattern) for wish in templates for name, pattern in wish[0][0]}
    for fact in facts:
        if not isinstance(fact, tuple) or len(fact) != 2 or not isinstance(fact[0], str) or fact[0] not in widths:
            return False
        if not isinstance(fact[1], tuple) or len(fact[1]) != widths[fact[0]] or not all(right(item) for item in fact[1]):
            return False
    ranks = [fact_rank(fact) for fact in facts]
    if ranks != sorted(ranks) or len(set(ranks)) < len(ranks) or not copies:
        return False
    for copy in copies:
        if not isinstance(copy, tuple) or len(copy) != 2 or type(copy[0]) is not int or not 0 <= copy[0] < len(templates):
            return False
        if not lets_by(((), facts), templates[copy[0]][0], copy[1]):
            return False
    if copies[0][0] != place:
        return False
    for at, (here, filling) in enumerate(copies):
        made = [saying for other, (there, row) in enumerate(copies) if other != at for saying in said(templates[there], row)]
        if not all(want in made for want in wanted(templates[here], filling)):
            return False
    return True


def right(item):
    """Whether an item of a row is a value."""
    if type(item) is int:
        return abs(item) <= 10 ** 9
    return type(item) is str and 0 < len(item) < 13 and all("a" <= sign <= "z" for sign in item)


PAIR = template(("?p", "?q"), [("rides", ("?p",))], [("rides", ("?q",))], [("!=", "?p", "?q")])
SOLE = template(("?p", "anna"), [("rides", ("?p",))], [("seat", ("?p",))])
BOTH = (PAIR, SOLE)
FACTS = (("rc", ("anna", "bo")), ("rc", ("bo", "anna")))
COPIES = ((0, ("anna", "bo")), (0, ("bo", "anna")))


class EverHolds(Case):
    def holds(self, value, templates=BOTH, place=0):
        found = ever_holds(templates, place, value)
        self.gives(by_hand(templates, place, value), found)
        return found

    def test_right(self):
        for value in ((FACTS, COPIES), (FACTS, COPIES[::-1]), (FACTS, COPIES + COPIES[:1]), (FACTS, COPIES * 5),
                      ((("rc", (5, 5)),) + FACTS, COPIES), (FACTS + (("rc", ("zed", 3)),), COPIES)):
            self.gives(self.holds(value), True)

    def test_facts(self):
        for facts in (FACTS[::-1], FACTS[:1], FACTS[1:], FACTS + FACTS[1:], (("day", (1,)),) + FACTS, FACTS + (("rd", (1, 2, 3)),), list(FACTS),
                      (list(FACTS[0]), FACTS[1]), (("ra", ("anna",)),) + FACTS, (("rc", ("anna",)),) + FACTS, (("rc", (True, 1)),) + FACTS,
                      (("rc", (-10 ** 9 - 1, 1)),) + FACTS, (("rc", (1, [])),) + FACTS, (("rc", [1, 1]),) + FACTS, (("rc", (1, "Anna")),) + FACTS,
                      (("rc", ("?p", "?q")),) + FACTS, FACTS + (None,), None, "facts", ()):
            self.gives(self.holds((facts, COPIES)), False)
        self.gives(self.holds(((("rc", (-10 ** 9, 1)),) + FACTS, COPIES)), True)

    def test_copies(self):
        for copies in ((), COPIES[:1], COPIES[1:], COPIES + ((1, ("bo",)),), COPIES + ((2, ("anna", "bo")),), COPIES + ((-1, ("anna", "bo")),),
                       ((False, ("anna", "bo")), COPIES[1]), (COPIES[0], (0, ["bo", "anna"])), (list(COPIES[0]), COPIES[1]), list(COPIES),
                       COPIES + ((0, ("anna", "anna")),), COPIES + ((0, ("anna", "cy")),), COPIES + ((0, ("anna",)),), COPIES + ((0, ("anna", True)),),
                       COPIES + (None,), COPIES + ((0, None),), COPIES + ((0,),), COPIES + ((0, ("anna", "bo"), 0),), None, "ab"):
            self.gives(self.holds((FACTS, copies)), False)

    def test_place_of_the_first_copy(self):
        other = template(("?p", "?q"), [("x", ())])
        templates = (PAIR, other)
        mixed = ((1, ("anna", "bo")),) + COPIES
        self.gives([self.holds((FACTS, mixed), templates, place) for place in (0, 1)], [False, True])
        self.gives([self.holds((FACTS, COPIES + mixed[:1]), templates, place) for place in (0, 1)], [True, False])

    def test_own_saying_is_not_enough(self):
        twin = template(("?x",), [("hi", ("?x",))], [("hi", ("?x",))])
        facts = (("rb", (1,)), ("rb", (2,)))
        for fillings, expected in (((1,), False), ((1, 1), True), ((1, 2), False), ((1, 1, 2), False), ((1, 2, 2, 1), True)):
            self.gives(self.holds((facts, tuple((0, (number,)) for number in fillings)), (twin,)), expected)

    def test_without_variables(self):
        value = template((1,), [("a", ())], [("b", ())])
        other = template((1,), [("b", ())], [("a", ())], [("=", 1, 1)])
        never = other[:0] + (((other[0][0]), (("=", 1, 2),)),) + other[1:]
        party = ((("rb", (1,)),), ((0, ()), (1, ())))
        self.gives([self.holds(party, (value, second)) for second in (other, never)], [True, False])

    def test_any_value(self):
        for value in ANY:
            self.gives(ever_holds(BOTH, 0, value), False)
            self.gives(ever_holds(BOTH, 0, (value, COPIES)), False)
            self.gives(ever_holds(BOTH, 0, (FACTS, value)), False)
            self.gives(ever_holds(BOTH, 0, (FACTS + (value,), COPIES)), False)
            self.gives(ever_holds(BOTH, 0, (FACTS, COPIES + (value,))), False)
            self.gives(ever_holds(BOTH, 0, (FACTS, COPIES + ((0, value),))), False)
        for value in ODD:
            self.gives(ever_holds(BOTH, 0, (FACTS, COPIES + ((value, COPIES[0][1]),))), False)
            self.gives(ever_holds(BOTH, 0, ((("rc", (value, 1)),) + FACTS, COPIES)), False)

    def test_pairs(self):
        for value in ([FACTS, COPIES], (FACTS, COPIES, ()), (FACTS,), (COPIES, FACTS), {FACTS: COPIES}):
            self.gives(self.holds(value), False)

    def test_one_thing_spoilt(self):
        value = (FACTS, COPIES)
        for path in paths_of(value):
            item = at_path(value, path)
            for new in (None, True, 1, "cy", (), list(item) if isinstance(item, tuple) else [item]):
                self.gives(self.holds(with_at(value, path, new)), False)
        chance, some = random.Random(54), 0
        for _ in range(120):
            templates = drawn_templates(chance)
            party = ever_lot(templates, 0)
            if party is None or len(party[1]) > 8:
                continue
            for _ in range(8):
                some += not self.holds(spoilt(chance, party), templates)
        self.gives(some > 200, True)

    def test_too_many_kinds_are_no_matter(self):
        facts = (("ra", (1,)), ("rg", (1, 2, 3, 4, 5, 6)))
        self.gives(self.holds((facts, ((0, (1, 1, 2, 3, 4, 5, 6, 1)),)), (eight(),)), True)
        self.gives(self.holds((facts, ((0, (1, 1, 2, 3, 4, 5, 6, 2)),)), (eight(),)), False)

    def test_orders_of_facts(self):
        value = template(("?a", "?b"))
        rows = [(-3, 1), (3, 20), (20, 3), (20, "b"), ("a", 1), ("b", "a")]
        self.gives(rows, sorted(rows, key=row_rank))
        facts = tuple(("rc", row) for row in rows)
        self.gives(self.holds((facts, ((0, (20, "b")),)), (value,)), True)
        for at in range(len(rows) - 1):
            swapped = facts[:at] + (facts[at + 1], facts[at]) + facts[at + 2:]
            self.gives(self.holds((swapped, ((0, (20, "b")),)), (value,)), False)


if __name__ == "__main__":
    unittest.main()
