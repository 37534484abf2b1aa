"""Tests of onlywith.kept: [I1] to [I5]."""

import itertools
import random
import unittest

from faircalls import DAY, NOTHING, day, wish
from pools import SCHEMA, Lots, drawn_pool, drawn_store
from support import Case, steady

touched = steady("kept", "touched")
untouched = steady("kept", "untouched")
without_wish = steady("kept", "without_wish")
with_change = steady("kept", "with_change")
no_paper = steady("papers", "no_paper")
no_holds = steady("papers", "no_holds")
first_group = steady("groups", "first_group")
fillings = steady("wishes", "fillings")
changed = steady("stores", "changed")
change_error = steady("stores", "change_error")
rival = steady("stores", "rival")
matched = steady("terms", "matched")
fact_rank = steady("stores", "fact_rank")


def seat(number, who):
    return ("seat", (number, who))


def body(*patterns, tests=()):
    return (tuple(patterns), tuple(tests))


def store_of(*facts):
    return (SCHEMA, tuple(facts))


class DrawnPaper:
    """Draws a paper of a no as [E6] to [E8] tell it: any lines that are true, any number to branch by."""

    def __init__(self, chance, store, pool):
        self.chance, self.lots, self.pool = chance, Lots(store, pool), pool

    def paper(self):
        lists = tuple((number, fillings(self.lots.store, value)) for number, value in self.pool)
        return (lists, self.node(tuple(self.lots.members), {}, False))

    def true_lines(self, left, settled):
        found = [(member, reason) for member in left for reason in self.lots.reasons(left, member)]
        for member in left:
            others = [other for other in settled if other != member[0] and self.lots.clash(member, settled[other])]
            found += [(member, ("clash", other)) for other in others]
        return found

    def node(self, left, settled, broken):
        lines = []
        while True:
            if (broken or not left) and self.chance.random() < 0.8:
                return (tuple(lines), None)
            some = self.true_lines(left, settled)
            numbers = sorted({number for number, _ in left if number not in settled})
            if numbers and (not some or self.chance.random() < 0.25):
                return (tuple(lines), self.end(self.chance.choice(numbers), left, settled, broken))
            if some:
                member, reason = self.chance.choice(some)
                lines.append(member + (reason,))
                left = tuple(other for other in left if other != member)
                broken = broken or settled.get(member[0]) == member

    def end(self, number, left, settled, broken):
        own = [member for member in left if member[0] == number]
        rest = tuple(member for member in left if member[0] != number)
        branches = tuple(
            (member[1], self.node(tuple(sorted(rest + (member,), key=self.lots.members.index)), {**settled, number: member}, broken))
            for member in own
        )
        return (number, branches, self.node(rest, settled, broken))


def drawn_wish(chance, at):
    """A wish that wants what others say, and may take a seat that others want, too."""
    says, wants = [[(chance.choice("abc"), chance.choice(((), (), ("?d",)))) for _ in range(many)] for many in (3, chance.choice((1, 2)))]
    writes = [("in", "seat", (chance.choice(("?d", 0, 0)), "vwxyz"[at]))]
    if chance.random() < 0.3:
        writes.append(("out", "seat", (chance.choice((0, 1)), "z")))
    return wish(says, wants, writes)


def drawn_without_group(chance):
    """A store and a pool without a group, and one of its papers."""
    while True:
        kind = chance.choice("abc")
        if kind == "a":
            store, pool = drawn_store(chance, 2), drawn_pool(chance, chance.randint(1, 4), "ab")
        elif kind == "b":
            # All that is in their way are seats that somebody has.
            store = store_of(*day(1), seat(0, "z"), seat(1, "z"))
            pool = tuple(
                (at, wish([("a", ())], [("a", ())] * (at % 2), [("in", "seat", (chance.choice((0, 1)), "vwxyz"[at]))]))
                for at in range(chance.randint(1, 3))
            )
        else:
            seats = [seat(number, "z") for number in (0, 1) if chance.random() < 0.7]
            store = store_of(*day(*range(chance.randint(1, 2))), *seats)
            pool = tuple((3 * at + chance.randint(0, 2), drawn_wish(chance, at)) for at in range(chance.randint(2, 4)))
        if len(Lots(store, pool).members) <= 9 and first_group(store, pool) is None:
            return store, pool, chance.choice((no_paper(store, pool), DrawnPaper(chance, store, pool).paper()))


def drawn_change(chance, store):
    """A change of a store that takes out few facts of it, or others, and puts in few."""
    while True:
        others = day(0, 1, 2) + tuple(seat(number, who) for number in range(3) for who in "az") + tuple(("tag", (number, 0)) for number in range(2))
        names = chance.choice((("day",), ("seat", "tag"), ("seat", "tag"), ("tag", "seat"), ("day", "seat", "tag")))
        facts = [fact for fact in sorted({*store[1], *others}, key=fact_rank) if fact[0] in names]
        outs = tuple(fact for fact in facts if chance.random() < 0.2)
        ins = tuple(fact for fact in facts if fact not in outs and chance.random() < 0.1)
        if change_error(store, (outs, ins)) is None:
            return (outs, ins)


def all_lines(node):
    """All lines of a node and of the nodes within."""
    found = list(node[0])
    if node[1] is not None:
        for inner in [branch for _, branch in node[1][1]] + [node[1][2]]:
            found += all_lines(inner)
    return found


def by_hand(node, number):
    """[I4], told once more: what becomes of a node without the wish of a number."""
    lines = [line for line in node[0] if line[0] != number]
    end = node[1]
    while end is not None and end[0] == number:
        lines += [line for line in end[2][0] if line[0] != number]
        end = end[2][1]
    if end is not None:
        end = (end[0], tuple((filling, by_hand(branch, number)) for filling, branch in end[1]), by_hand(end[2], number))
    return (tuple(lines), end)


class Touched(Case):
    def one(self, value, fact):
        """Whether a fact touches a wish, as an out and as an in; pools of one wish, and among others."""
        other = wish(body=body(("tag", (9, 9))))
        found = touched(SCHEMA, ((4, value),), ((fact,), ()))
        self.gives(touched(SCHEMA, ((4, value),), ((), (fact,))), found)
        self.gives(touched(SCHEMA, ((1, other), (4, value), (9, other)), ((fact,), ())), found)
        self.gives(touched(SCHEMA, ((4, value),), ((("tag", (88, 8)),), (seat(88, 8), fact))), found)
        self.gives(found in ((), (4,)), True)
        return found == (4,)

    def test_relations(self):
        self.gives([self.one(wish(), fact) for fact in (("day", (5,)), ("day", ("x",)), seat(5, "x"), ("tag", (5, 5)))], [True, True, False, False])

    def test_variable_twice(self):
        twice = wish(body=body(("seat", ("?a", "?a"))))
        self.gives([self.one(twice, seat(*row)) for row in ((5, 5), (5, "x"), ("x", "x"))], [True, False, True])

    def test_values(self):
        value = wish(body=body(("seat", (5, "?a"))))
        self.gives([self.one(value, seat(*row)) for row in ((5, 5), (5, "x"), (6, 5), ("x", 5))], [True, True, False, False])
        fixed = wish(body=body(("seat", (5, "x"))))
        self.gives([self.one(fixed, seat(*row)) for row in ((5, "x"), (5, "y"), (4, "x"))], [True, False, False])

    def test_patterns_by_themselves(self):
        # A variable of two patterns is not asked to be one value.
        both = wish(body=body(("seat", ("?a", 1)), ("tag", ("?a", 2)), ("seat", (3, 3))))
        facts = [seat(7, 1), seat(7, 2), ("tag", (8, 2)), ("tag", (8, 1)), seat(3, 3), ("day", (1,))]
        self.gives([self.one(both, fact) for fact in facts], [True, False, True, False, True, False])

    def test_tests_are_not_asked(self):
        never = wish(body=body(("day", ("?d",)), tests=[("!=", "?d", "?d"), ("=", 1, 2)]))
        self.gives(self.one(never, ("day", (5,))), True)
        less = wish(body=body(("seat", ("?a", "?b")), tests=[("<", "?a", 3)]))
        self.gives(self.one(less, seat(5, 5)), True)

    def test_sayings_wants_and_writes_are_not_asked(self):
        value = wish([("seat", (5, "x"))], [("tag", (5, "x"))], [("in", "seat", (5, "x")), ("out", "tag", ("?d", 1))])
        self.gives([self.one(value, fact) for fact in (seat(5, "x"), ("tag", (5, 1)), ("day", (5,)))], [False, False, True])

    def test_pools(self):
        some = (("day", (5,)),)
        self.gives(touched(SCHEMA, (), (some, some)), ())
        self.gives(touched(SCHEMA, ((4, wish()),), NOTHING), ())
        forty = tuple((3 * at, wish(body=DAY if at % 3 else body(("tag", (at, at))))) for at in range(40))
        self.gives(touched(SCHEMA, forty, ((), some)), tuple(3 * at for at in range(40) if at % 3))
        self.gives(touched(SCHEMA, forty, ((("tag", (6, 6)),), ())), (18,))
        self.gives(touched(SCHEMA, forty, (some, (("tag", (6, 6)),))), tuple(3 * at for at in range(40) if at % 3 or at == 6))

    def test_facts_there_or_not_in_any_order(self):
        self.gives(touched(SCHEMA, ((0, wish()),), (day(9, 8, 8), (seat(1, 1), seat(1, 2)))), (0,))

    def test_drawn(self):
        chance, some = random.Random(91), 0
        for _ in range(200):
            store, pool = drawn_store(chance), drawn_pool(chance, chance.randint(0, 5), "ab")
            change = drawn_change(chance, store)
            expected = tuple(
                number for number, value in pool
                if any(name == fact[0] and matched(pattern, fact[1], ()) is not None for name, pattern in value[0][0] for fact in change[0] + change[1])
            )
            self.gives(touched(SCHEMA, pool, change), expected)
            some += 0 < len(expected) < len(pool)
            for number, value in pool:
                if number not in expected:
                    self.gives(fillings(changed(store, change), value), fillings(store, value))
        self.gives(some > 30, True)


# Both want a seat that somebody has; they say what the other one wants.
ONE = wish([("a", ())], [("b", ())], [("out", "day", (9,)), ("in", "seat", (1, "one"))])
TWO = wish([("b", ())], [("a", ())], [("in", "tag", (1, "two")), ("in", "seat", (2, "two"))])
POOL = ((3, ONE), (7, TWO))
STORE = store_of(*day(5), seat(1, "x"), seat(2, "y"), ("tag", (1, "z")))
LISTS = ((3, ((5,),)), (7, ((5,),)))


def deep(line, other):
    """Papers with a line and a further one at each place where they can stand."""
    rest = (line, other)
    return (
        (LISTS, (rest, None)),
        (LISTS, ((), (3, (((5,), ((line,), None) if line[0] == 3 else (rest, None)),), (((7, (5,), ("want", 0)),), None)))),
        (LISTS, ((), (7, (((5,), (rest, None)),), (((3, (5,), ("want", 0)),), None)))),
        (LISTS, ((), (3, (((5,), ((), (7, (((5,), (rest, None)),), (((3, (5,), ("want", 0)),), None)))),), (((7, (5,), ("want", 0)),), None)))),
    )


class Untouched(Case):
    def test_key_in_any_node(self):
        own, want = (3, (5,), ("key", 1)), (7, (5,), ("want", 0))
        for paper in deep(own, want):
            self.gives(no_holds(STORE, POOL, paper), True)
            self.gives(untouched(STORE, POOL, paper, ((seat(1, "x"),), ())), False)
            self.gives(untouched(STORE, POOL, paper, ((seat(2, "y"),), ())), True)
            self.gives(untouched(STORE, POOL, paper, ((seat(2, "y"), ("tag", (1, "z"))), (seat(2, "w"),))), True)
            self.gives(untouched(STORE, POOL, paper, ((seat(1, "x"),), (seat(1, "w"),))), False)

    def test_key_behind_branches(self):
        # The line stands where the number 7 is left out, and there again behind a branch.
        key = (3, (5,), ("key", 1))
        kept = (((3, (5,), ("want", 0)),), None)
        inner = ((), (7, (((5,), ((key, (7, (5,), ("want", 0))), None)),), kept))
        papers = (
            (LISTS, ((), (7, (((5,), (((7, (5,), ("key", 1)),), None)),), ((key,), None)))),
            (LISTS, ((), (3, (((5,), inner),), (((7, (5,), ("want", 0)),), None)))),
        )
        for paper in papers:
            self.gives(no_holds(STORE, POOL, paper), True)
            self.gives(untouched(STORE, POOL, paper, ((seat(1, "x"),), ())), False)
        self.gives([untouched(STORE, POOL, paper, ((seat(2, "y"),), ())) for paper in papers], [False, True])

    def test_place_of_the_write(self):
        for place, fact in ((0, ("tag", (1, "z"))), (1, seat(2, "y"))):
            paper = (LISTS, (((7, (5,), ("key", place)), (3, (5,), ("want", 0))), None))
            self.gives(no_holds(STORE, POOL, paper), True)
            for other in (seat(1, "x"), seat(2, "y"), ("tag", (1, "z"))):
                self.gives(untouched(STORE, POOL, paper, ((other,), ())), other != fact)

    def test_ins_alone(self):
        paper = (LISTS, (((3, (5,), ("key", 1)), (7, (5,), ("want", 0))), None))
        for facts in ((seat(3, "x"),), (("tag", (2, "z")),), (seat(1, "x"),), (seat(3, "x"), ("tag", (3, "x")))):
            self.gives(untouched(STORE, POOL, paper, ((), facts)), True)
        self.gives(untouched(STORE, POOL, paper, ((), day(6))), False)
        self.gives(untouched(STORE, POOL, paper, (day(6), ())), False)
        self.gives(untouched(STORE, POOL, paper, NOTHING), True)

    def test_facts_near_the_rival(self):
        paper = (LISTS, (((3, (5,), ("key", 1)), (7, (5,), ("want", 0))), None))
        for fact in (seat(1, "one"), seat(1, "w"), seat(1, 1), seat("x", 1), ("tag", (1, "x")), seat(2, "x"), seat(0, "x")):
            self.gives(untouched(STORE, POOL, paper, ((fact,), ())), True)
        self.gives(untouched(STORE, POOL, paper, ((seat(1, "x"), seat(1, "y")), ())), False)

    def test_other_reasons_alone(self):
        clash = ((3, wish([("a", ())], [("b", ())], [("in", "seat", (4, "one"))])), (7, wish([("b", ())], [("a", ())], [("in", "seat", (4, "two"))])))
        branch = (((7, (5,), ("clash", 3)), (3, (5,), ("want", 0))), None)
        paper = (LISTS, ((), (3, (((5,), branch),), (((7, (5,), ("want", 0)),), None))))
        self.gives(no_holds(STORE, clash, paper), True)
        own = ((3, wish(writes=[("in", "seat", (4, "v")), ("in", "seat", (4, "w"))])),)
        lone = ((LISTS[0],), (((3, (5,), ("own",)),), None))
        self.gives(no_holds(STORE, own, lone), True)
        for facts in ((seat(1, "x"),), STORE[1][1:], (seat(4, "one"),)):
            self.gives((untouched(STORE, clash, paper, (facts, ())), untouched(STORE, own, lone, (facts, ()))), (True, True))

    def test_no_wishes(self):
        self.gives(untouched(STORE, (), ((), ((), None)), (STORE[1], day(6))), True)

    def test_drawn(self):
        chance, found = random.Random(92), {}
        for _ in range(250):
            store, pool, paper = drawn_without_group(chance)
            self.gives(no_holds(store, pool, paper), True)
            wishes = dict(pool)
            rivals = []
            for number, filling, reason in all_lines(paper[1]):
                if reason[0] == "key":
                    rivals.append(rival(store, Lots(store, pool).placed_write((number, filling), reason[1])[1]))
            self.gives((None in rivals, len(wishes)), (False, len(pool)))
            for _ in range(4):
                change = drawn_change(chance, store)
                asked = touched(SCHEMA, pool, change) != ()
                taken = any(fact in change[0] for fact in rivals)
                keeps = untouched(store, pool, paper, change)
                self.gives(keeps, not asked and not taken)
                found[(asked, taken)] = found.get((asked, taken), 0) + 1
                if keeps:
                    self.gives(no_holds(changed(store, change), pool, paper), True)
        self.gives((len(found), min(found.values()) > 20), (4, True))


class WithoutWish(Case):
    def test_lines_alone(self):
        paper = (LISTS, (((3, (5,), ("key", 1)), (7, (5,), ("want", 0))), None))
        self.gives(without_wish(paper, 3), (LISTS[1:], (((7, (5,), ("want", 0)),), None)))
        self.gives(without_wish(paper, 7), (LISTS[:1], (((3, (5,), ("key", 1)),), None)))
        self.gives(without_wish(without_wish(paper, 7), 3), ((), ((), None)))

    def test_number_at_the_top(self):
        for paper in deep((3, (5,), ("key", 1)), (7, (5,), ("want", 0))):
            _, (lines, end) = paper
            if end is not None:
                self.gives(without_wish(paper, end[0])[1], end[2])

    def test_number_in_branches_and_without(self):
        line = (1, (0,), ("want", 0))

        def node(name, end=None):
            return ((line, (8, (0,), ("want", name))), end)

        inner = node(1, (8, (((0,), node(2)), ((1,), node(3))), node(4, (9, (((0,), node(5)),), node(6)))))
        outer = ((), (4, (((0,), inner), ((1,), node(7, (8, (((0,), node(8)),), node(9))))), node(10, (8, (((0,), node(11)),), node(12)))))
        lone = ((line,), None)
        twice = ((line, line), None)
        expected = ((), (4, (((0,), ((line, line), (9, (((0,), lone),), lone))), ((1,), twice)), twice))
        lists = ((1, ((0,),)), (4, ((0,), (1,))), (8, ((0,), (1,))), (9, ((0,),)))
        self.gives(without_wish((lists, outer), 8), (lists[:2] + lists[3:], expected))
        self.gives(without_wish((lists, outer), 8)[1], by_hand(outer, 8))

    def test_twice_one_below_the_other(self):
        line = (1, (0,), ("want", 0))
        node = ((line,), (8, (((0,), ((), None)),), ((line, line), (8, (((0,), ((), None)),), ((line,), (1, (((0,), ((line,), None)),), ((), None)))))))
        self.gives(without_wish(((), node), 8)[1], ((line,) * 4, (1, (((0,), ((line,), None)),), ((), None))))

    def test_others_stay(self):
        for paper in deep((3, (5,), ("key", 1)), (7, (5,), ("want", 0))):
            self.gives(repr(without_wish(paper, 5)), repr(paper))

    def test_drawn(self):
        chance, branched = random.Random(93), 0
        for _ in range(200):
            store, pool, paper = drawn_without_group(chance)
            branched += paper[1][1] is not None
            for number, _ in pool:
                found = without_wish(paper, number)
                self.gives(found, (tuple(pair for pair in paper[0] if pair[0] != number), by_hand(paper[1], number)))
                self.gives(no_holds(store, tuple(pair for pair in pool if pair[0] != number), found), True)
        self.gives(branched > 40, True)

    def test_down_to_the_empty_pool(self):
        chance = random.Random(94)
        for _ in range(40):
            store, pool, paper = drawn_without_group(chance)
            for order in list(itertools.permutations([number for number, _ in pool]))[:6]:
                left, kept = pool, paper
                for number in order:
                    left, kept = tuple(pair for pair in left if pair[0] != number), without_wish(kept, number)
                    self.gives(no_holds(store, left, kept), True)
                self.gives(kept, ((), ((), None)))


class WithChange(Case):
    def test_untouched(self):
        for paper in deep((3, (5,), ("key", 1)), (7, (5,), ("want", 0))):
            for change in (NOTHING, ((), (seat(3, "x"),)), ((seat(2, "y"),), (seat(2, "w"),))):
                self.gives(no_holds(changed(STORE, change), POOL, with_change(STORE, POOL, paper, change)), True)

    def test_has_group(self):
        paper = (LISTS, (((3, (5,), ("key", 1)), (7, (5,), ("want", 0))), None))
        taken = ((seat(1, "x"), seat(2, "y"), ("tag", (1, "z"))), ())
        self.raises("HasGroup", {"group": ((3, (5,)), (7, (5,)))}, with_change, STORE, POOL, paper, taken)
        more = (taken[0], day(4, 6))
        self.raises("HasGroup", {"group": ((3, (4,)), (7, (4,)))}, with_change, STORE, POOL, paper, more)
        for fact in taken[0]:
            part = (tuple(other for other in taken[0] if other != fact), ())
            self.gives(no_holds(changed(STORE, part), POOL, with_change(STORE, POOL, paper, part)), True)

    def test_sixty_candidates(self):
        lone = ((0, wish([], [("no", ())])),)
        store, paper = store_of(*day(*range(59))), (((0, tuple((number,) for number in range(59))),), (tuple((0, (number,), ("want", 0)) for number in range(59)), None))
        self.gives(no_holds(store, lone, paper), True)
        self.gives(no_holds(store_of(*day(*range(60))), lone, with_change(store, lone, paper, ((), day(59)))), True)
        self.raises("TooMany", {"limit": 60}, with_change, store, lone, paper, ((), day(59, 60)))
        self.raises("TooMany", {"limit": 60}, with_change, store, lone, paper, ((), day(*range(60, 400))))

    def test_too_many_comes_ahead_of_a_group(self):
        free = ((0, wish(body=body(("seat", (1, "?w"))))), (1, wish([], [("no", ())])))
        store = store_of(*day(*range(59)))
        paper = no_paper(store, free)
        self.raises("HasGroup", {"group": ((0, ("x",)),)}, with_change, store, free, paper, ((), (seat(1, "x"),)))
        self.raises("TooMany", {"limit": 60}, with_change, store, free, paper, ((), day(59) + (seat(1, "x"),)))

    def test_four_changes_one_behind_another(self):
        chance, found = random.Random(95), {"kept": 0, "new": 0, "group": 0}
        for _ in range(150):
            store, pool, paper = drawn_without_group(chance)
            for _ in range(4):
                change = drawn_change(chance, store)
                after = changed(store, change)
                group = first_group(after, pool)
                if group is not None:
                    self.raises("HasGroup", {"group": group}, with_change, store, pool, paper, change)
                    found["group"] += 1
                    break
                found["kept" if untouched(store, pool, paper, change) else "new"] += 1
                store, paper = after, with_change(store, pool, paper, change)
                self.gives(no_holds(store, pool, paper), True)
        self.gives(min(found.values()) > 20, True)


if __name__ == "__main__":
    unittest.main()
