"""Tests of onlywith.papers: [E6] to [E8]."""

import random
import unittest

from hardpools import chain, days, pool_of, ring, wish
from pools import Lots, drawn_pool, drawn_store
from support import ANY, Case, at_path, paths_of, spoilt, steady, with_at

no_paper = steady("papers", "no_paper")
no_holds = steady("papers", "no_holds")
first_group = steady("groups", "first_group")
fillings = steady("wishes", "fillings")


def say(*words):
    return [(word, ()) for word in words]


class ByHand:
    """Goes through a paper as [E6] to [E8] tell it, with sets of members."""

    def __init__(self, store, pool):
        self.lots = Lots(store, pool)
        self.lists = tuple((number, fillings(store, wish)) for number, wish in pool)

    def holds(self, value):
        if not isinstance(value, tuple) or len(value) != 2 or repr(value[0]) != repr(self.lists):
            return False
        return self.node(value[1], list(self.lots.members), {}, [], False)

    def is_true(self, left, settled, member, reason):
        if not isinstance(reason, tuple) or not reason or len(reason) > 2 or not isinstance(reason[0], str):
            return False
        if len(reason) == 1:
            return reason == ("own",) and self.lots.is_true(left, member, reason)
        word, place = reason
        if type(place) is not int:
            return False
        if word != "clash":
            return word in ("want", "key") and self.lots.is_true(left, member, reason)
        return place in settled and place != member[0] and self.lots.clash(member, settled[place])

    def node(self, value, left, settled, without, broken):
        if not isinstance(value, tuple) or len(value) != 2 or not isinstance(value[0], tuple):
            return False
        for line in value[0]:
            if not isinstance(line, tuple) or len(line) != 3 or repr(line[:2]) not in map(repr, left):
                return False
            member = line[:2]
            if not self.is_true(left, settled, member, line[2]):
                return False
            left = [other for other in left if other != member]
            broken = broken or settled.get(member[0]) == member
        if value[1] is None:
            return broken or not left
        if not isinstance(value[1], tuple) or len(value[1]) != 3 or type(value[1][0]) is not int:
            return False
        return self.end(*value[1], left, settled, without, broken)

    def end(self, number, branches, other, left, settled, without, broken):
        own = [member for member in left if member[0] == number]
        if not own or number in settled or number in without or not isinstance(branches, tuple):
            return False
        if not all(isinstance(branch, tuple) and len(branch) == 2 for branch in branches):
            return False
        if repr([filling for filling, _ in branches]) != repr([filling for _, filling in own]):
            return False
        rest = [member for member in left if member[0] != number]
        for member, (_, node) in zip(own, branches):
            if not self.node(node, sorted(rest + [member], key=self.lots.members.index), {**settled, number: member}, without, broken):
                return False
        return self.node(other, rest, settled, without + [number], broken)


def drawn_without_group(chance):
    """A store and a pool without a group, often one whose papers branch."""
    while True:
        if chance.random() < 0.4:
            store, pool = drawn_store(chance), drawn_pool(chance, chance.randint(1, 5), "abc")
        else:
            # Each wants what others say, but takes a seat that others want, too.
            store, pool, words = days(chance.randint(1, 3)), [], ["a", "b", "c"]
            for at in range(chance.randint(2, 5)):
                says, wants = [
                    [(chance.choice(words), chance.choice(((), (), ("?d",)))) for _ in range(many)] for many in (3, chance.choice((1, 2)))
                ]
                pool.append(wish(says, wants, [("in", "seat", (chance.choice(("?d", 0, 0)), "vwxyz"[at]))]))
            pool = pool_of(pool)
        if len(Lots(store, pool).members) <= 20 and first_group(store, pool) is None:
            return store, pool


def branching(node):
    """How many nodes within a node branch."""
    if node[1] is None:
        return 0
    return 1 + sum(branching(inner) for _, inner in node[1][1]) + branching(node[1][2])


def shuffled(chance, lots, left):
    """The lines that strike all that can be struck, in any order, each for any true reason; and what is left."""
    lines, left = [], list(left)
    while True:
        right = [(member, reason) for member in left for reason in lots.reasons(left, member)]
        if not right:
            return tuple(lines), left
        member, reason = chance.choice(right)
        lines.append(member + (reason,))
        left.remove(member)


JO = wish(say("left"), say("right"), [("in", "seat", (8, "jo"))])
KIM = wish(say("right"), say("left"), [("in", "seat", (8, "kim"))])
PAIR = ((1, JO), (2, KIM))
LISTS = ((1, ((0,),)), (2, ((0,),)))
SETTLED = (((2, (0,), ("clash", 1)), (1, (0,), ("want", 0))), None)
WITHOUT = (((2, (0,), ("want", 0)),), None)
PAPER = (LISTS, ((), (1, (((0,), SETTLED),), WITHOUT)))


class NoPaper(Case):
    def test_either_a_group_or_a_paper(self):
        chance, branched = random.Random(21), 0
        for _ in range(250):
            store, pool = drawn_store(chance), drawn_pool(chance, chance.randint(1, 6), "abc")
            lots = Lots(store, pool)
            if len(lots.members) > 25:
                continue
            group = first_group(store, pool)
            if group is not None:
                self.raises("HasGroup", {"group": group}, no_paper, store, pool)
                self.gives(no_holds(store, pool, (tuple((number, fillings(store, wish)) for number, wish in pool), ((), None))), False)
            else:
                self.gives(no_holds(store, pool, no_paper(store, pool)), True)
        for _ in range(150):
            store, pool = drawn_without_group(chance)
            paper = no_paper(store, pool)
            self.gives((no_holds(store, pool, paper), ByHand(store, pool).holds(paper)), (True, True))
            branched += branching(paper[1]) > 1
        self.gives(branched > 15, True)

    def test_empty(self):
        self.gives(no_holds(days(2), (), no_paper(days(2), ())), True)
        self.gives(no_holds(days(0), PAIR, no_paper(days(0), PAIR)), True)

    def test_group(self):
        pool = ((4, wish()), (7, wish()))
        self.raises("HasGroup", {"group": ((4, (0,)),)}, no_paper, days(2), pool)

    def test_too_many_comes_ahead(self):
        # Both have groups; values are not looked at.
        wide, long = tuple((number, wish()) for number in range(13)), pool_of([wish(), wish()])
        for value in (None, (), PAPER):
            self.raises("TooMany", {"limit": 12}, no_holds, days(400), wide, value)
            self.raises("TooMany", {"limit": 60}, no_holds, days(31), long, value)
        self.raises("TooMany", {"limit": 12}, no_paper, days(400), wide)
        self.raises("TooMany", {"limit": 60}, no_paper, days(31), long)

    def test_hard_pools(self):
        for store, pool in ((days(5), ring(12, (), True)), (days(5), chain(12)), (days(6), ring(7, (), True)), (days(5), ring(12, ("?d",), True)[:11])):
            paper = no_paper(store, pool)
            self.gives(no_holds(store, pool, paper), True)
            self.gives(no_holds(store, pool, with_at(paper, (1, 0), paper[1][0][:-1] or ((0, (0,), ("own",)),))), False)


class NoHolds(Case):
    def holds(self, value, store=days(1), pool=PAIR):
        found = no_holds(store, pool, value)
        self.gives(ByHand(store, pool).holds(value), found)
        return found

    def node(self, node):
        return self.holds((LISTS, node))

    def test_right(self):
        other = ((), (2, (((0,), (((1, (0,), ("clash", 2)), (2, (0,), ("want", 0))), None)),), (((1, (0,), ("want", 0)),), None)))
        longer = (((2, (0,), ("clash", 1)),), (1, (((0,), SETTLED),), WITHOUT))
        self.gives([self.holds(PAPER), self.node(other), self.node(longer)], [True, True, False])
        # The struck one that is settled ends the way, whoever is left.
        third = PAIR + ((5, wish(say("x"))),)
        self.gives(first_group(days(1), third), ((5, (0,)),))

    def test_lists(self):
        for lists in (LISTS[:1], LISTS[::-1], LISTS + ((3, ()),), list(LISTS), LISTS[:1] * 2, ((1, ((0,),)), (2, ((1,),))), ((1, ()), LISTS[1]),
                      ((1, ((0,), (0,))), LISTS[1]), ((True, ((0,),)), LISTS[1]), ((1, ((False,),)), LISTS[1]), ((1, [(0,)]), LISTS[1]),
                      ([1, ((0,),)], LISTS[1]), ((1, ([0],)), LISTS[1]), None, ()):
            self.gives(self.holds((lists, PAPER[1])), False)

    def test_lists_of_wishes_without_fillings(self):
        pool = PAIR + ((5, (((("day", (9,)),), ()), (), (), ())),)
        self.gives(self.holds((LISTS + ((5, ()),), PAPER[1]), pool=pool), True)
        self.gives(self.holds(PAPER, pool=pool), False)

    def test_end_too_early(self):
        self.gives(self.node(((), None)), False)
        self.gives(self.node(((), (1, (((0,), ((), None)),), WITHOUT))), False)
        self.gives(self.node(((), (1, (((0,), (SETTLED[0][:1], None)),), WITHOUT))), False)
        self.gives(self.node(((), (1, (((0,), SETTLED),), ((), None)))), False)

    def test_number(self):
        for number in (0, 3, -1, True, 1.5, "1", None, (1,), [], 10 ** 400 - 1):
            self.gives(self.node(((), (number, (((0,), SETTLED),), WITHOUT))), False)
        # A number that is settled, and one that is left out.
        again = ((), (1, (((0,), SETTLED),), ((), None)))
        self.gives(self.node(((), (1, (((0,), again),), WITHOUT))), False)
        self.gives(self.node(((), (1, (((0,), ((), (1, (((0,), SETTLED),), WITHOUT))),), WITHOUT))), False)
        self.gives(self.node(((), (1, (((0,), SETTLED),), ((), (1, (), ((), None)))))), False)
        self.gives(self.node(((), (1, (((0,), SETTLED),), ((), (1, (((0,), SETTLED),), WITHOUT))))), False)

    def test_number_without_members_left(self):
        pool = PAIR + ((3, wish([], say("no"))),)
        lists = LISTS + ((3, ((0,),)),)
        line = (3, (0,), ("want", 0))
        self.gives(self.holds((lists, ((line,), PAPER[1][1])), pool=pool), True)
        self.gives(self.holds((lists, ((line,), (3, (), ((), PAPER[1][1])))), pool=pool), False)
        self.gives(self.holds((lists, ((), (3, (((0,), ((line,), None)),), ((), PAPER[1][1])))), pool=pool), True)
        self.gives(self.holds((lists, ((), (3, (((0,), ((line,), PAPER[1][1])),), ((), PAPER[1][1])))), pool=pool), True)

    def test_clash_with_a_number_that_is_not_settled(self):
        self.gives(self.node((((2, (0,), ("clash", 1)),), None)), False)
        self.gives(self.node(((), (1, (((0,), (((2, (0,), ("clash", 2)),) + SETTLED[0][1:], None)),), WITHOUT))), False)
        self.gives(self.node(((), (1, (((0,), (((1, (0,), ("clash", 1)),), None)),), WITHOUT))), False)
        for other in (True, 1.0, None, [], "1", (1,)):
            self.gives(no_holds(days(1), PAIR, (LISTS, ((), (1, (((0,), (((2, (0,), ("clash", other)), SETTLED[0][1]), None)),), WITHOUT)))), False)

    def test_settled_one_need_not_be_left(self):
        pool = pool_of([JO[:2] + (tuple(say("right", "no")),) + JO[3:], KIM])
        lists = ((0, ((0,),)), (1, ((0,),)))
        lines = ((0, (0,), ("want", 1)), (1, (0,), ("clash", 0)))
        without = (((1, (0,), ("want", 0)),), None)
        self.gives(self.holds((lists, ((), (0, (((0,), (lines, None)),), without))), pool=pool), True)
        self.gives(self.holds((lists, (lines, None)), pool=pool), False)

    def test_struck_on_the_way(self):
        # Where the settled one was struck, the node may go on, and all ends are right.
        pool = pool_of([JO[:2] + (tuple(say("no")),) + JO[3:], KIM, wish(say("right"), say("left"))])
        lists = tuple((number, ((0,),)) for number in range(3))
        inner = ((), (2, (((0,), ((), None)),), ((), None)))
        branch = (((0, (0,), ("want", 0)),), (1, (((0,), inner),), ((), None)))
        rest = (((1, (0,), ("want", 0)), (2, (0,), ("want", 0))), None)
        self.gives(self.holds((lists, ((), (0, (((0,), branch),), rest))), pool=pool), True)
        self.gives(self.holds((lists, ((), (0, (((0,), ((),) + branch[1:]),), rest))), pool=pool), False)

    def test_lines_behind_a_settled_one_that_was_struck(self):
        pool = pool_of([wish([], say("no")), JO, KIM, wish([], say("never"))])
        lists = tuple((number, ((0,),)) for number in range(4))
        first, last = (0, (0,), ("want", 0)), (3, (0,), ("want", 0))
        for lines in ((first,), (first, last), (last, first)):
            self.gives(self.holds((lists, ((), (0, (((0,), (lines, None)),), ((last,), PAPER[1][1])))), pool=pool), True)
        self.gives(self.holds((lists, ((), (0, (((0,), ((last,), None)),), ((last,), PAPER[1][1])))), pool=pool), False)

    def test_branches(self):
        store = days(2)
        lists = ((1, ((0,), (1,))), (2, ((0,), (1,))))
        lines = tuple((2, (number,), ("clash", 1)) for number in (0, 1))
        branches = tuple(((number,), (lines + ((1, (number,), ("want", 0)),), None)) for number in (0, 1))
        without = (tuple((2, (number,), ("want", 0)) for number in (1, 0)), None)
        self.gives(self.holds((lists, ((), (1, branches, without))), store), True)
        for wrong in (branches[:1], branches[::-1], branches[:1] * 2, branches + branches[:1], (), list(branches), (branches[0], list(branches[1])),
                      (branches[0], ((2,),) + branches[1][1:]), (branches[0], ((True,),) + branches[1][1:]), (branches[0], ([1],) + branches[1][1:]),
                      (branches[0], branches[1] + ((),)), (branches[0], (branches[0][0],) + branches[1][1:])):
            self.gives(self.holds((lists, ((), (1, wrong, without))), store), False)
        # Only one is left to settle behind a line.
        pool = pool_of([wish([("left", ())], [("right", ()), ("day", ("?d",))], JO[3]), KIM[:1] + (KIM[1] + (("day", (0,)),),) + KIM[2:]])
        lists = ((0, ((0,), (1,))), (1, ((0,), (1,))))
        lines = tuple((1, (number,), ("clash", 0)) for number in (0, 1)) + ((0, (0,), ("want", 0)),)
        rest = (tuple((1, (number,), ("want", 0)) for number in (1, 0)), None)
        self.gives(self.holds((lists, (((0, (1,), ("want", 1)),), (0, (((0,), (lines, None)),), rest))), store, pool), True)

    def test_other_fillings_are_not_left_in_a_branch(self):
        store = days(2)
        pool = pool_of([wish([("a", ("?d",))], [("b", ())]), wish([("b", ())], [("a", (0,)), ("a", (1,))])])
        lists = ((0, ((0,), (1,))), (1, ((0,), (1,))))

        def branch(number):
            lines = tuple((1, (day,), ("want", 1 - number)) for day in (0, 1))
            return ((number,), (lines + ((0, (number,), ("want", 0)),), None))

        rest = (tuple((1, (day,), ("want", 0)) for day in (0, 1)), None)
        self.gives(self.holds((lists, ((), (0, (branch(0), branch(1)), rest))), store, pool), True)
        self.gives(self.holds((lists, ((), (0, (branch(1), branch(0)), rest))), store, pool), False)

    def test_any_value(self):
        for value in ANY:
            self.gives(no_holds(days(1), PAIR, value), False)
            self.gives(no_holds(days(1), PAIR, (LISTS, value)), False)
            self.gives(no_holds(days(1), PAIR, (LISTS, ((value,), PAPER[1][1]))), False)
            self.gives(no_holds(days(1), PAIR, (LISTS, ((), value))), False)
            self.gives(no_holds(days(1), PAIR, with_at(PAPER, (1, 1, 1, 0, 1, 0, 0, 2), value)), False)

    def test_one_thing_spoilt_everywhere(self):
        for path in paths_of(PAPER):
            item = at_path(PAPER, path)
            for new in (list(item) if isinstance(item, tuple) else [item], None, True, (), "own", -1):
                # The reasons of PAPER need not be the first ones, but each is the only true one.
                if repr(new) != repr(item):
                    self.gives(self.holds(with_at(PAPER, path, new)), False)

    def test_any_true_reason_in_any_order(self):
        chance, some = random.Random(23), 0
        for _ in range(200):
            store, pool = drawn_without_group(chance)
            lots, paper = Lots(store, pool), no_paper(store, pool)
            lines, left = shuffled(chance, lots, lots.members)
            if not left:
                some += 1
                self.gives(self.holds((paper[0], (lines, None)), store, pool), True)
            else:
                self.gives(self.holds((paper[0], (lines, None)), store, pool), False)
        self.gives(some > 50, True)

    def test_spoilt(self):
        chance, found = random.Random(24), {True: 0, False: 0}
        for _ in range(120):
            store, pool = drawn_without_group(chance)
            paper = no_paper(store, pool)
            for _ in range(12):
                value = spoilt(chance, paper)
                found[self.holds(value, store, pool)] += 1
        self.gives(found[False] > 1000, True)


if __name__ == "__main__":
    unittest.main()
