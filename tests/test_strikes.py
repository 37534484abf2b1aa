"""Tests of onlywith.strikes: [D1] to [D7]."""

import random
import unittest

from pools import SCHEMA, Lots, drawn_pool, drawn_store, members_of
from support import ANY, ODD, Case, spoilt, steady

pool_error = steady("strikes", "pool_error")
candidates = steady("strikes", "candidates")
reason_of = steady("strikes", "reason_of")
struck = steady("strikes", "struck")
lines_hold = steady("strikes", "lines_hold")
wish_error = steady("wishes", "wish_error")

MANY = ("TooMany", {"limit": 60})
DAY = ((("day", ("?d",)),), ())


def wish(body=DAY, says=(), wants=(), writes=()):
    return (body, says, wants, writes)


def days(many, *others):
    return (SCHEMA, tuple(("day", (number,)) for number in range(many)) + others)


class PoolError(Case):
    def test_right(self):
        for value in ((), ((0, wish()),), ((10 ** 9, wish()),), ((0, wish()), (1, wish()), (7, wish())),
                      tuple((number, wish()) for number in range(40))):
            self.gives(pool_error(SCHEMA, value), None)

    def test_form(self):
        for value in ANY + [[], [(0, wish())], {0: wish()}, ((0, wish()), [1, wish()]), ((0,),), ((0, wish(), 1),), ((0, wish()), None)]:
            if value != () and (not isinstance(value, tuple) or not all(isinstance(item, tuple) and len(item) == 2 for item in value)):
                self.gives(pool_error(SCHEMA, value), "form")

    def test_number(self):
        for number in [True, False, None, -1, 10 ** 9 + 1, 10 ** 400 - 1, "1", (1,), "a"] + ODD:
            self.gives(pool_error(SCHEMA, ((number, wish()),)), ("number", 0))
            self.gives(pool_error(SCHEMA, ((0, wish()), (1, wish()), (number, wish()), (number, wish()))), ("number", 2))
        for numbers, place in (((3, 3), 1), ((3, 2), 1), ((1, 2, 2, 2), 2), ((0, 5, 4, 3), 2), ((0, 10 ** 9, 10 ** 9), 2), ((5, True), 1)):
            self.gives(pool_error(SCHEMA, tuple((number, wish()) for number in numbers)), ("number", place))

    def test_wish(self):
        wrong = [None, (), wish()[:3], wish((DAY[0], None)), wish(says=(None,)), wish(wants=(("a", ("?x",)),)), wish(writes=((),)),
                 wish(((("day", ("?d.1",)),), ())), wish(((("way", ("?d",)),), ())), wish(says=[]), wish(((), ()))]
        for value in wrong:
            error = wish_error(SCHEMA, value)
            self.gives(pool_error(SCHEMA, ((0, wish()), (4, value), (7, None))), ("wish", 1, error))
            self.gives(pool_error(SCHEMA, ((0, value),)), ("wish", 0, error))

    def test_many(self):
        self.gives(pool_error(SCHEMA, tuple((number, wish()) for number in range(41))), "many")
        self.gives(pool_error(SCHEMA, tuple((number, wish()) for number in range(300))), "many")

    def test_two_faults(self):
        many = tuple((number, wish()) for number in range(50))
        self.gives(pool_error(SCHEMA, ((True, None), (0, wish()), 3)), "form")
        self.gives(pool_error(SCHEMA, ((0, None), (0, wish()))), ("number", 1))
        self.gives(pool_error(SCHEMA, many + ((50, None),)), ("wish", 50, "form"))
        self.gives(pool_error(SCHEMA, many + ((49, None),)), ("number", 50))
        self.gives(pool_error(SCHEMA, many + ((),)), "form")

    def test_schema_counts(self):
        self.gives(pool_error((), ((0, wish()),)), ("wish", 0, ("body", ("pattern", 0))))
        self.gives(pool_error((), ()), None)


class Candidates(Case):
    def test_none(self):
        self.gives(candidates(days(3), ()), ())
        self.gives(candidates(days(0), ((0, wish()), (1, wish()))), ())

    def test_without_variables(self):
        self.gives(candidates(days(3), ((2, wish(((("day", (1,)),), ()))), (5, wish(((("day", (7,)),), ()))))), ((2, ()),))

    def test_order(self):
        store = (SCHEMA, (("day", (-3,)), ("day", (20,)), ("day", ("a",))))
        self.gives(candidates(store, ((2, wish()), (10, wish()))),
                   ((2, (-3,)), (2, (20,)), (2, ("a",)), (10, (-3,)), (10, (20,)), (10, ("a",))))

    def test_clashing_members_are_candidates(self):
        writes = (("in", "seat", (1, 1)), ("out", "seat", (1, 1)))
        self.gives(candidates(days(1), ((0, wish(writes=writes, wants=(("no", ()),))),)), ((0, (0,)),))

    def test_bound(self):
        pool = ((0, wish()), (3, wish()), (4, wish(((("day", (0,)),), ()))))
        self.gives(len(candidates(days(20), pool[:2] + ((4, wish()),))), 60)
        self.raises(*MANY, candidates, days(30), pool)
        self.gives(len(candidates(days(30), pool[:2])), 60)
        self.gives(len(candidates(days(60), pool[:1])), 60)
        self.raises(*MANY, candidates, days(61), pool[:1])
        self.gives(len(candidates(days(60), pool[:1] + ((4, wish(((("day", (60,)),), ()))),))), 60)

    def test_very_many_fillings(self):
        pairs = wish(((("day", ("?a",)), ("day", ("?b",))), ()))
        for store in (days(7 + 1), days(44), days(45), days(400)):
            self.raises(*MANY, candidates, store, ((1, wish(((("day", (0,)),), ()))), (2, pairs)))
        six = wish((tuple(("day", (name,)) for name in ("?a", "?b", "?c", "?d", "?e", "?f")), ()))
        self.raises(*MANY, candidates, days(400), ((1, six),))


class Reasons(Case):
    def test_none(self):
        pool = ((0, wish(says=(("a", ()),), wants=(("b", ()),))), (1, wish(says=(("b", ()),), wants=(("a", ()),))))
        left = candidates(days(1), pool)
        self.gives([reason_of(days(1), pool, left, member) for member in left], [None, None])

    def test_own(self):
        for writes in (
            (("in", "seat", (1, 1)), ("out", "seat", (1, 1))), (("in", "seat", (1, 1)), ("in", "seat", (1, "?d"))),
            (("out", "day", ("?d",)), ("in", "day", (0,))),
        ):
            pool = ((0, wish(wants=(("no", ()),), writes=writes)),)
            self.gives(reason_of(days(1), pool, ((0, (0,)),), (0, (0,))), ("own",))
        pool = ((0, wish(writes=(("in", "seat", (1, 1)), ("in", "seat", (1, "?d"))))),)
        self.gives(reason_of(days(2), pool, ((0, (1,)),), (0, (1,))), None)

    def test_want_by_another_filling_of_the_same_wish(self):
        pool = ((0, wish(says=(("a", ("?d",)),), wants=(("a", (1,)),))), (1, wish(says=(("b", ()),))))
        left = candidates(days(2), pool)
        self.gives(reason_of(days(2), pool, left, (0, (0,))), ("want", 0))
        self.gives(reason_of(days(2), pool + ((2, wish(says=(("a", ("?d",)),))),), left + ((2, (1,)),), (0, (0,))), None)

    def test_first_want(self):
        pool = ((0, wish(wants=(("a", ()), ("b", ()), ("c", ()), ("b", ())))), (1, wish(says=(("a", ()),))), (2, wish(says=(("c", ()),))))
        left = candidates(days(1), pool)
        self.gives(reason_of(days(1), pool, left, left[0]), ("want", 1))
        self.gives(reason_of(days(1), pool, left[:1] + left[2:], left[0]), ("want", 0))

    def test_words_and_rows_of_wants(self):
        for saying in (("a", (1,)), ("a", ()), ("a", (0, 0)), ("b", (0,)), ("a", ("zero",))):
            pool = ((0, wish(wants=(("a", ("?d",)),))), (1, wish(says=(saying,))))
            left = candidates(days(1), pool)
            self.gives(reason_of(days(1), pool, left, left[0]), ("want", 0))
        pool = ((0, wish(wants=(("a", ("?d",)),))), (1, wish(says=(("c", ()), ("a", (0,))))))
        left = candidates(days(1), pool)
        self.gives(reason_of(days(1), pool, left, left[0]), None)

    def test_key(self):
        store = days(1, ("seat", (1, "bo")), ("tag", (1, 1)))
        taking = wish(writes=(("out", "seat", (1, "bo")),))
        putting = wish(writes=(("out", "day", (7,)), ("in", "tag", (1, 1)), ("in", "seat", (1, "anna"))))
        pool = ((0, putting), (1, taking))
        left = candidates(store, pool)
        self.gives(reason_of(store, pool, left[:1], left[0]), ("key", 2))
        self.gives(reason_of(store, pool, left, left[0]), None)
        self.gives(reason_of(store, pool, left[1:], left[1]), None)

    def test_key_freed_by_the_member_itself(self):
        store = days(2, ("seat", (1, "bo")))
        pool = ((0, wish(writes=(("in", "seat", (1, "anna")), ("out", "seat", ("?d", "bo"))))),)
        left = candidates(store, pool)
        self.gives(reason_of(store, pool, left[1:], left[1]), None)
        self.gives(reason_of(store, pool, left[:1], left[0]), ("key", 0))
        # The other filling of the same wish is a member of left, too.
        self.gives(reason_of(store, pool, left, left[0]), None)

    def test_in_that_is_there_and_relations_without_key(self):
        store = days(2, ("seat", (1, "bo")))
        pool = ((0, wish(writes=(("in", "seat", (1, "bo")), ("in", "day", (0,)), ("in", "day", (9,))))),)
        left = candidates(store, pool)
        self.gives([reason_of(store, pool, left, member) for member in left], [None, None])

    def test_order_of_reasons(self):
        store = days(1, ("seat", (1, "bo")))
        key, want = (("in", "seat", (1, "anna")),), (("no", ()),)
        own = key + (("out", "seat", (1, "anna")),)
        for value, reason in ((wish(wants=want, writes=own), ("own",)), (wish(wants=want, writes=key), ("want", 0)), (wish(writes=key), ("key", 0))):
            self.gives(reason_of(store, ((0, value),), ((0, (0,)),), (0, (0,))), reason)


def chain(many, ring):
    """Wishes each of which wants what the next one says, the last one what the first says if it is a ring."""
    words = ["w" + "abcdefghij"[number // 10] + "abcdefghij"[number % 10] for number in range(many + 1)]
    after = words[1:many] + [words[0] if ring else words[many]]
    return tuple((number, wish(says=((words[number], ()),), wants=((after[number], ()),))) for number in range(many))


class Struck(Case):
    def test_chain(self):
        left, lines = struck(days(1), chain(40, False))
        self.gives(left, ())
        self.gives(lines, tuple((number, (0,), ("want", 0)) for number in range(39, -1, -1)))

    def test_ring(self):
        self.gives(struck(days(1), chain(40, True)), (tuple((number, (0,)) for number in range(40)), ()))

    def test_first_member_each_time(self):
        pool = ((0, wish(wants=(("a", ()),))), (1, wish(says=(("a", ()),), wants=(("b", ()),))), (2, wish(wants=(("c", ()),))),
                (3, wish(says=(("b", ()),), wants=(("d", ()),))))
        self.gives(struck(days(1), pool), ((), (
            (2, (0,), ("want", 0)), (3, (0,), ("want", 0)), (1, (0,), ("want", 0)), (0, (0,), ("want", 0)))))

    def test_empty(self):
        self.gives(struck(days(3), ()), ((), ()))
        self.gives(struck(days(0), chain(3, True)), ((), ()))

    def test_too_many(self):
        self.raises(*MANY, struck, days(31), ((0, wish()), (1, wish())))

    def test_drawn(self):
        chance, lengths = random.Random(3), {}
        for _ in range(300):
            store, pool = drawn_store(chance), drawn_pool(chance, chance.randint(1, 6), "abc")
            if len(members_of(store, pool)) > 60:
                continue
            lots, lines = Lots(store, pool), []
            left = lots.members
            while any(lots.reasons(left, member) for member in left):
                member = [member for member in left if lots.reasons(left, member)][0]
                lines.append(member + (lots.reasons(left, member)[0],))
                left = [other for other in left if other != member]
            self.gives(struck(store, pool), (tuple(left), tuple(lines)))
            lengths[len(lines)] = True
            if left:
                self.gives([reason_of(store, pool, tuple(left), member) for member in left], [None] * len(left))
        self.gives(len(lengths) > 6, True)


class WhatHolds(Case):
    def test_any_order(self):
        """(c) of [A2]: the same are left whatever the order; none that is struck is in a lot that stands."""
        chance, some = random.Random(6), 0
        for _ in range(200):
            store, pool = drawn_store(chance), drawn_pool(chance, chance.randint(1, 5), "abc")
            lots = Lots(store, pool)
            if len(lots.members) > 16:
                continue
            left = list(lots.members)
            while True:
                wrong = [member for member in left if lots.reasons(left, member)]
                if not wrong:
                    break
                left.remove(chance.choice(wrong))
            self.gives(struck(store, pool)[0], tuple(left))
            for lot in lots.all_standing():
                some += len(lot) < len(left) < len(lots.members)
                self.gives([member for member in lot if member not in left], [])
        self.gives(some > 20, True)


class LinesHold(Case):
    store = days(2, ("seat", (1, "bo")))
    pool = ((0, wish(wants=(("no", ()), ("a", ()), ("no", ())))), (1, wish(says=(("a", ()),), writes=(("in", "seat", (1, "anna")),))))

    def test_any_true_reason_in_any_order(self):
        for value in (
            (), ((0, (1,), ("want", 2)),), ((0, (1,), ("want", 0)), (0, (0,), ("want", 2))), ((1, (0,), ("key", 0)),),
            ((1, (1,), ("key", 0)), (1, (0,), ("key", 0)), (0, (0,), ("want", 1))),
        ):
            self.gives(lines_hold(self.store, self.pool, value), True)

    def test_wrong_lines(self):
        for value in (
            ((0, (1,), ("want", 1)),), ((0, (1,), ("want", 3)),), ((0, (1,), ("want", -1)),), ((0, (1,), ("own",)),),
            ((0, (1,), ("key", 0)),), ((1, (0,), ("want", 0)),), ((1, (0,), ("key", 1)),), ((1, (0,), ("key", -1)),),
            ((0, (2,), ("want", 0)),), ((2, (0,), ("want", 0)),), ((0, (1,), ("want", 0)),) * 2,
            ((1, (1,), ("key", 0)), (0, (0,), ("want", 1))), ((0, (1,), ("clash", 1)),), ((0, (1,), ("want",)),),
            ((0, (1,), ("own", 0)),), ((0, (1,), ("want", 0, 0)),), ((0, (1,), ()),), ((0, (1,), ("no", 0)),),
        ):
            self.gives(lines_hold(self.store, self.pool, value), False)

    def test_kinds_of_values(self):
        line = (0, (1,), ("want", 0))
        for value in (
            [line], (list(line),), (line[:2] + (["want", 0],),), ((0, [1], ("want", 0)),), ((False, (1,), ("want", 0)),),
            ((0, (True,), ("want", 0)),), ((0, (1,), ("want", False)),), (line + (0,),), (line[:2],), ((None,) + line[1:],),
            (("0",) + line[1:],), ((0, "1", ("want", 0)),), ((0, None, ("want", 0)),), ((0, (1,), None),), ((0, (1,), "want"),),
            ((0, ([],), ("want", 0)),), ((0, ({},), ("want", 0)),), ((0, (1,), ([], 0)),), ((0, (1,), ("want", [])),),
            (([],) + line[1:],), ((0, (1,), ("want", "0")),), ((0, ((1,),), ("want", 0)),), ((0, (1,), ("want", 10 ** 400 - 1)),),
            ((10 ** 400 - 1,) + line[1:],), line, None,
        ):
            self.gives(lines_hold(self.store, self.pool, value), False)
        self.gives(lines_hold(self.store, self.pool, (line,)), True)

    def test_any_value(self):
        for value in ANY:
            self.gives(lines_hold(self.store, self.pool, value), value == ())
            self.gives(lines_hold(self.store, self.pool, (value,)), False)

    def test_own(self):
        writes = (("in", "seat", ("?d", 1)), ("in", "seat", (0, "a")))
        pool = ((0, wish(writes=writes)),)
        self.gives(lines_hold(days(2), pool, ((0, (0,), ("own",)),)), True)
        self.gives(lines_hold(days(2), pool, ((0, (1,), ("own",)),)), False)

    def test_too_many(self):
        for value in ((), None, [], "a"):
            self.raises(*MANY, lines_hold, days(61), ((0, wish()),), value)

    def test_drawn(self):
        chance, found = random.Random(4), {True: 0, False: 0}
        for _ in range(400):
            store, pool = drawn_store(chance), drawn_pool(chance, chance.randint(1, 5), "abc")
            if len(members_of(store, pool)) > 60:
                continue
            lots, lines = Lots(store, pool), []
            left = list(lots.members)
            while left and len(lines) < 8:
                member = chance.choice(left)
                reasons = lots.reasons(left, member)
                reason = chance.choice(reasons) if reasons else chance.choice([("own",), ("want", 0), ("key", 0), None])
                if reason is None:
                    continue
                lines.append(member + (reason,))
                left.remove(member)
                right = bool(reasons)
                found[right] += 1
                self.gives(lines_hold(store, pool, tuple(lines)), right)
                if not right:
                    break
            else:
                value = spoilt(chance, tuple(lines))
                if lines and lines_hold(store, pool, value):
                    self.gives(self.by_hand(lots, value), True)
        self.gives(min(found.values()) > 100, True)

    def by_hand(self, lots, value):
        """Whether lines, none of which has a wrong kind of value, hold."""
        left = list(lots.members)
        for number, filling, reason in value:
            if (number, filling) not in left or not lots.is_true(left, (number, filling), reason):
                return False
            left.remove((number, filling))
        return repr(value) == repr(tuple((number + 0, tuple(filling), tuple(reason)) for number, filling, reason in value))


if __name__ == "__main__":
    unittest.main()
