"""Tests of onlywith.lots: [E1] to [E4]."""

import random
import unittest

from pools import SCHEMA, Lots, drawn_pool, drawn_store
from support import ANY, Case, spoilt, steady

lot_error = steady("lots", "lot_error")
stands = steady("lots", "stands")
lot_change = steady("lots", "lot_change")
group_error = steady("lots", "group_error")
first_group = steady("groups", "first_group")
change_error = steady("stores", "change_error")
changed = steady("stores", "changed")
store_error = steady("stores", "store_error")

DAY = ((("day", ("?d",)),), ())


def wish(body=DAY, says=(), wants=(), writes=()):
    return (body, says, wants, writes)


def days(many, *others):
    return (SCHEMA, tuple(("day", (number,)) for number in range(many)) + others)


def says(*words):
    return tuple((word, ()) for word in words)


class LotError(Case):
    pool = ((1, wish(says=says("a"), wants=says("b"))), (4, wish(says=says("b"), wants=says("a"))), (6, wish()))
    right = ((1, (0,)), (4, (1,)))

    def error(self, value, pool=None, store=days(2)):
        return lot_error(store, self.pool if pool is None else pool, value)

    def test_right(self):
        for value in (self.right, self.right + ((6, (1,)),), ((6, (0,)),)):
            self.gives((self.error(value), stands(days(2), self.pool, value)), (None, True))

    def test_form(self):
        for value in ANY + [
            list(self.right), {}, None, (self.right[0], list(self.right[1])), ((1,),), ((1, (0,), ()),), ((True, (0,)),), ((1, [0]),),
            ((1, 0),), ((1, "a"),), (("1", (0,)),), (([], (0,)),), ((1, (0,)), (1, (1,))), ((4, (0,)), (1, (0,))), ((1, (0,)), None),
            ((9, (0,)), (10 ** 400 - 1, [])),
        ]:
            if value != ():
                self.gives(self.error(value), "form")

    def test_member(self):
        for item in ((0, (0,)), (2, (0,)), (10 ** 400 - 1, (0,)), (6, (2,)), (6, ()), (6, (0, 0)), (6, (True,)), (6, (False,)), (6, ("?d",)),
                     (6, ([],)), (6, (None,)), (6, ("a",)), (6, ((0,),)), (6, tuple(range(3000)))):
            self.gives(self.error((item,)), ("member", 0))
            if item[0] > 4:
                self.gives(self.error(self.right + (item,)), ("member", 2))
        self.gives(self.error(((1, (5,)), (4, (5,)))), ("member", 0))
        self.gives(self.error(((1, (0,)), (4, (5,)), (6, (5,)))), ("member", 1))

    def test_own(self):
        both = wish(writes=(("out", "seat", (1, "?d")), ("in", "seat", (1, 0))))
        keys = wish(writes=(("in", "seat", (1, "?d")), ("in", "seat", (1, 0))), wants=says("no"))
        pool = ((0, both), (2, keys), (3, both))
        self.gives([self.error(value, pool) for value in (((0, (0,)),), ((0, (1,)),), ((2, (1,)),), ((2, (0,)),))],
                   [("own", 0), None, ("own", 0), ("want", 0, 0)])
        self.gives(self.error(((0, (1,)), (2, (1,)), (3, (0,))), pool), ("own", 1))
        self.gives(self.error(((0, (1,)), (2, (0,)), (3, (0,))), pool), ("own", 2))

    def test_want(self):
        self.gives(self.error(((1, (0,)),)), ("want", 0, 0))
        self.gives(self.error(((1, (0,)), (6, (0,)))), ("want", 0, 0))
        pool = ((0, wish(says=says("a", "b"))), (1, wish(wants=says("b", "a"))), (2, wish(says=says("c"), wants=says("a", "c", "d"))))
        self.gives(self.error(((0, (0,)), (1, (0,)), (2, (0,))), pool), ("want", 2, 1))
        self.gives(self.error(((1, (0,)), (2, (0,))), pool), ("want", 0, 0))

    def test_one_saying_makes_several_wants(self):
        pool = ((0, wish(says=says("a"))), (1, wish(wants=says("a", "a"))), (2, wish(wants=says("a"))))
        self.gives(self.error(((0, (0,)), (1, (0,)), (2, (1,))), pool), None)

    def test_clash(self):
        taking, putting = ("out", "seat", (1, "?d")), ("in", "seat", (1, "?d"))
        pool = ((0, wish(writes=(taking,))), (1, wish(writes=(putting,))), (2, wish(writes=(putting,))), (3, wish(wants=says("no"))))
        self.gives(self.error(((0, (0,)), (1, (0,))), pool), ("clash", 0, 1))
        self.gives(self.error(((0, (0,)), (1, (1,))), pool), None)
        self.gives(self.error(((1, (0,)), (2, (0,))), pool), None)
        self.gives(self.error(((1, (0,)), (2, (1,))), pool), ("clash", 0, 1))
        self.gives(self.error(((0, (0,)), (1, (1,)), (2, (0,))), pool), ("clash", 0, 2))
        self.gives(self.error(((0, (0,)), (1, (1,)), (2, (0,)), (3, (0,))), pool), ("want", 3, 0))

    def test_no_clash_without_a_key(self):
        putting = wish(writes=(("in", "day", ("?d",)), ("in", "seat", ("?d", 1))))
        self.gives(self.error(((0, (0,)), (1, (1,)), (2, (0,))), ((0, putting), (1, putting), (2, putting))), None)

    def test_clash_with_a_way(self):
        store = days(2, ("seat", (1, "bo")))
        pool = ((0, wish(writes=(("in", "seat", (1, "bo")),))), (1, wish(writes=(("out", "seat", (1, "bo")),))),
                (2, wish(writes=(("in", "seat", (1, "a")),))))
        self.gives(self.error(((0, (0,)), (1, (0,))), pool, store), ("clash", 0, 1))
        self.gives(self.error(((0, (0,)), (2, (0,))), pool, store), ("clash", 0, 1))
        self.gives(self.error(((1, (0,)), (2, (0,))), pool, store), None)
        self.gives(self.error(((2, (0,)),), pool, store), ("key", 0, 0))

    def test_key(self):
        store = days(2, ("seat", (0, "bo")), ("seat", (1, "bo")))
        pool = ((0, wish(writes=(("out", "seat", (0, "bo")), ("in", "seat", (0, "a"))))), (1, wish(writes=(("in", "day", (7,)), ("in", "seat", ("?d", "a"))))),
                (2, wish(writes=(("out", "seat", (1, "bo")), ("out", "tag", (1, 1))))))
        self.gives(self.error(((0, (0,)), (1, (0,))), pool, store), None)
        self.gives(self.error(((0, (0,)), (1, (1,))), pool, store), ("key", 1, 1))
        self.gives(self.error(((0, (0,)), (1, (1,)), (2, (0,))), pool, store), None)
        self.gives(self.error(((1, (0,)), (2, (0,))), pool, store), ("key", 0, 1))

    def test_in_that_stands_already_and_out_that_is_not_there(self):
        store = days(2, ("seat", (1, "bo")))
        pool = ((0, wish(writes=(("in", "seat", (1, "bo")), ("in", "day", (0,)), ("out", "day", (9,)), ("out", "tag", (1, 1))))),)
        self.gives(self.error(((0, (0,)),), pool, store), None)

    def test_empty(self):
        self.gives((self.error(()), self.error((), ()), stands(days(2), (), ())), ("empty", "empty", False))

    def test_more_than_a_store_may_have(self):
        store = days(400)
        pool = ((0, wish(((("day", (0,)),), ()), writes=(("in", "seat", (1, 1)),))),)
        self.gives(self.error(((0, ()),), pool, store), None)
        self.gives(group_error(store, pool, ((0, ()),)), None)

    def test_more_members_than_candidates(self):
        pool = tuple((number, wish(says=says("a"), wants=says("a"))) for number in range(40))
        self.gives(self.error(tuple((number, (number,)) for number in range(40)), pool, days(400)), None)
        self.gives(self.error(((7, (399,)),), pool, days(400)), ("want", 0, 0))

    def test_two_faults_of_unlike_arms(self):
        store = days(2, ("seat", (1, "bo")))
        own, key = wish(writes=(("in", "seat", (0, 1)), ("in", "seat", (0, 2)))), wish(writes=(("in", "seat", (1, "a")),))
        clash, want = wish(writes=(("in", "seat", (1, "c")),)), wish(wants=says("no"))
        pool = ((0, key), (1, clash), (2, want), (3, own), (4, want))
        lot = tuple((number, (0,)) for number in range(5))
        self.gives(self.error(lot[:3] + ((3, (9,)), (4, [])), pool, store), "form")
        self.gives(self.error(lot[:4] + ((4, (9,)),), pool, store), ("member", 4))
        self.gives(self.error(lot, pool, store), ("own", 3))
        self.gives(self.error(lot[:3] + lot[4:], pool, store), ("want", 2, 0))
        self.gives(self.error(lot[:2], pool, store), ("clash", 0, 1))
        self.gives(self.error(lot[1:2], pool, store), ("key", 0, 0))

    def test_drawn(self):
        chance, found = random.Random(8), {}
        for _ in range(500):
            store, pool = drawn_store(chance), drawn_pool(chance, chance.randint(1, 6), "ab")
            lots = Lots(store, pool)
            for _ in range(6):
                numbers = [number for number, _ in pool if chance.random() < 0.5]
                members = [[member for member in lots.members if member[0] == number] for number in numbers]
                lot = tuple(chance.choice(some) for some in members if some)
                expected = lots.error(lot)
                self.gives(lot_error(store, pool, lot), expected)
                self.gives(stands(store, pool, lot), expected is None)
                found[expected and expected[:1]] = True
        self.gives(len(found), 6)

    def test_change_of_a_lot_that_stands(self):
        """(b) of [A2]: behind it the store keeps its keys, and there is such a lot exactly if there is a group."""
        chance, some = random.Random(18), 0
        for _ in range(150):
            store, pool = drawn_store(chance), drawn_pool(chance, chance.randint(1, 5), "ab")
            lots = Lots(store, pool)
            if len(lots.members) > 14:
                continue
            standing = lots.all_standing()
            for lot in standing[:20]:
                change = lot_change(pool, lot)
                some += change != ((), ())
                self.gives(change_error(store, change), None)
                self.gives(store_error(changed(store, change)), None)
            self.gives(first_group(store, pool) is None, not standing)
        self.gives(some > 50, True)

    def test_spoilt(self):
        chance = random.Random(9)
        for _ in range(400):
            value = spoilt(chance, self.right)
            if repr(value) != repr(self.right):
                error = self.error(value)
                self.gives(error is None, repr(value) in (repr(((1, (first,)), (4, (second,)))) for first in (0, 1) for second in (0, 1)))


class LotChange(Case):
    def test_two_members(self):
        pool = (
            (2, wish(writes=(("in", "seat", (2, "?d")), ("out", "tag", ("?d", 1)), ("in", "day", (20,)), ("in", "day", ("a",))))),
            (5, wish(writes=(("out", "day", (9,)), ("in", "day", (20,)), ("in", "day", (3,)), ("out", "tag", (0, 1)), ("in", "seat", (10, "b"))))),
            (6, wish(writes=(("in", "day", (0,)),))),
        )
        self.gives(lot_change(pool, ((2, (0,)), (5, (1,)))), (
            (("day", (9,)), ("tag", (0, 1))),
            (("day", (3,)), ("day", (20,)), ("day", ("a",)), ("seat", (2, 0)), ("seat", (10, "b"))),
        ))
        self.gives(lot_change(pool, ((2, (0,)),)), ((("tag", (0, 1)),), (("day", (20,)), ("day", ("a",)), ("seat", (2, 0)))))

    def test_fact_in_both(self):
        pool = ((0, wish(writes=(("in", "day", ("?d",)),))), (1, wish(writes=(("out", "day", ("?d",)),))))
        self.gives(lot_change(pool, ((0, (1,)), (1, (1,)))), ((("day", (1,)),), (("day", (1,)),)))

    def test_none(self):
        self.gives(lot_change(((0, wish()),), ((0, (1,)),)), ((), ()))
        self.gives(lot_change((), ()), ((), ()))


class GroupError(Case):
    def test_what_lot_error_tells(self):
        pool = ((0, wish(wants=says("no"))),)
        for value, error in (((), "empty"), (None, "form"), (((0, (7,)),), ("member", 0)), (((0, (0,)),), ("want", 0, 0))):
            self.gives(group_error(days(1), pool, value), error)

    def test_part_without_the_least_number(self):
        pool = ((0, wish(wants=says("a"))), (1, wish(says=says("a"))))
        self.gives(group_error(days(1), pool, ((0, (0,)), (1, (0,)))), None)
        pool = ((0, wish(says=says("a"))), (1, wish(wants=says("a"))))
        self.gives(group_error(days(1), pool, ((0, (0,)), (1, (0,)))), ("part", ((0, (0,)),)))

    def test_part_with_the_least_numbers(self):
        # 0 wants what 2 and 3 say, 1 makes nothing, 3 also wants what 2 says.
        pool = ((0, wish(wants=says("a"))), (1, wish()), (2, wish(says=says("a", "b"))), (3, wish(says=says("a"), wants=says("b"))))
        lot = tuple((number, (0,)) for number in range(4))
        self.gives(group_error(days(1), pool, lot), ("part", (lot[0], lot[1], lot[2])))
        self.gives(group_error(days(1), pool, (lot[0],) + lot[2:]), ("part", (lot[0], lot[2])))
        self.gives(group_error(days(1), pool, (lot[0], lot[1], lot[2])), ("part", (lot[0], lot[2])))
        self.gives(group_error(days(1), pool, (lot[0], lot[2])), None)

    def test_part_that_needs_an_out(self):
        store = days(1, ("seat", (1, "bo")))
        pool = ((0, wish(writes=(("in", "seat", (1, "a")),))), (1, wish(says=says("x"))), (2, wish(wants=says("x"), writes=(("out", "seat", (1, "bo")),))))
        lot = tuple((number, (0,)) for number in range(3))
        self.gives(group_error(store, pool, lot), None)
        self.gives(group_error(store, pool[:1] + ((1, wish()), (2, wish(writes=pool[2][1][3]))), lot), ("part", (lot[0], lot[2])))

    def test_twelve_and_thirteen(self):
        words = ["w" + sign for sign in "abcdefghijklm"]
        for many in (12, 13):
            pool = tuple((number, wish(says=says(words[number]), wants=says(words[(number + 1) % many]))) for number in range(many))
            lot = tuple((number, (0,)) for number in range(many))
            if many == 12:
                self.gives(group_error(days(1), pool, lot), None)
            else:
                self.raises("TooMany", {"limit": 12}, group_error, days(1), pool, lot)
                self.gives(group_error(days(1), pool, lot[:12]), ("want", 11, 0))
                self.raises("TooMany", {"limit": 12}, group_error, days(1), tuple((number, wish()) for number in range(13)), lot)

    def test_large_pools(self):
        pool = tuple((number, wish(says=says("a"), wants=says("a"))) for number in range(40))
        self.gives(group_error(days(400), pool, ((3, (1,)), (9, (399,)), (30, (0,)))), ("part", ((3, (1,)), (9, (399,)))))

    def test_drawn(self):
        chance, found = random.Random(10), {None: 0, "part": 0}
        for _ in range(150):
            store, pool = drawn_store(chance), drawn_pool(chance, chance.randint(1, 5), "ab")
            lots = Lots(store, pool)
            if len(lots.members) > 14:
                continue
            for lot in lots.all_standing()[:30]:
                smaller = lots.smaller(lot)
                expected = ("part", smaller[0]) if smaller else None
                self.gives(group_error(store, pool, lot), expected)
                found[expected and "part"] += 1
        self.gives(min(found.values()) > 50, True)


if __name__ == "__main__":
    unittest.main()
