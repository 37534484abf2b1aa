"""Tests of onlywith.groups: [E5]."""

import random
import unittest

from hardpools import WORDS, chain, days, needless, pool_of, ring, shortcut, strangers, wish
from pools import Lots, drawn_pool, drawn_store
from support import Case, steady

first_group = steady("groups", "first_group")
group_error = steady("lots", "group_error")
candidates = steady("strikes", "candidates")


def say(*words):
    return [(word, ()) for word in words]


class FirstGroup(Case):
    def group(self, store, pool, expected):
        self.gives(first_group(store, pool), expected)
        if expected is not None:
            self.gives(group_error(store, pool, expected), None)

    def test_none(self):
        self.group(days(2), (), None)
        self.group(days(0), ring(3), None)
        self.group(days(2), chain(3), None)
        self.group(days(1), pool_of([wish([], [], [("in", "seat", (1, 1)), ("in", "seat", (1, 2))])]), None)

    def test_alone(self):
        self.group(days(2), ((4, wish()), (7, wish())), ((4, (0,)),))
        self.group(days(2), ((4, wish([], say("a"))), (7, wish())), ((7, (0,)),))

    def test_least_fillings(self):
        pool = ((0, wish([("a", ("?d",))], [("b", (2,))])), (3, wish([("b", ("?d",))], [("a", (1,))])))
        self.group(days(3), pool, ((0, (1,)), (3, (2,))))
        store = (days(0)[0], (("day", (-5,)), ("day", (3,)), ("day", (20,)), ("day", ("a",))))
        self.group(store, ring(2), ((0, (-5,)), (1, (-5,))))
        other = pool_of([wish([("a", ("?d",))], [("b", ())]), wish(say("b"), [("a", (20,))])])
        self.group(store, other, ((0, (20,)), (1, (-5,))))

    def test_first_filling_ahead_of_the_second(self):
        # The seats 0 and 1 go to two wishes; the least filling of the first one leaves the greater to the second one.
        pool = pool_of([wish(say("a"), say("b"), [("in", "seat", ("?d", "a"))]), wish(say("b"), say("a"), [("in", "seat", ("?d", "b"))])])
        self.group(days(2), pool, ((0, (0,)), (1, (1,))))

    def test_beginning_comes_ahead(self):
        # (0, 1) comes ahead of (0, 1, 2) and of (0, 2).
        pool = pool_of([wish([], say("a")), wish(say("a")), wish(say("a"))])
        self.group(days(2), pool, ((0, (0,)), (1, (0,))))
        # (0, 1, 2) comes ahead of (0, 2), but is no group if 0 and 2 stand.
        pool = pool_of([wish([], say("a")), wish([], say("c")), wish(say("a", "c"))])
        self.group(days(2), pool, ((0, (0,)), (2, (0,))))

    def test_numbers_ahead_of_fillings(self):
        # With the day 0 the first one needs 2, with the day 1 it needs 1.
        pool = pool_of([wish([], [("a", ("?d",))]), wish([("a", (1,))]), wish([("a", (0,))])])
        self.group(days(2), pool, ((0, (1,)), (1, (0,))))

    def test_smaller_lot_with_another_filling_does_not_count(self):
        # 0 on day 0 needs 1 and 2; on day 1 it stands alone, but that is another lot.
        pool = pool_of([wish([], [("a", ("?d",))]), wish([("a", (0,))], say("b")), wish(say("b")), wish([("a", (1,))])])
        self.group(days(2), pool, ((0, (0,)), (1, (0,)), (2, (0,))))

    def test_least_number_need_not_be_the_first_of_the_pool(self):
        pool = ((2, wish([], say("no"))), (10, wish(say("a"), say("b"))), (11, wish([], say("a"))), (12, wish(say("b"), say("a"))))
        self.group(days(1), pool, ((10, (0,)), (12, (0,))))

    def test_a_group_without_the_least_number_does_not_count(self):
        # 1 and 2 stand without 0, which needs both.
        pool = pool_of([wish([], say("a")), wish(say("a"), say("b")), wish(say("b"), say("a"))])
        self.group(days(1), pool, ((0, (0,)), (1, (0,)), (2, (0,))))

    def test_outs_are_needed_too(self):
        store = (days(1)[0], (("day", (0,)), ("seat", (1, "bo"))))
        pool = pool_of([wish([], [], [("in", "seat", (1, "a"))]), wish(say("x")), wish([], say("x"), [("out", "seat", (1, "bo"))])])
        self.group(store, pool, ((0, (0,)), (1, (0,)), (2, (0,))))
        self.group(store, pool[:2], ((1, (0,)),))

    def test_more_facts_than_a_store_has(self):
        body = ((("day", (7,)),), ())
        pool = ((0, (body, (), (), (("in", "seat", (1, 1)),))),)
        self.group(days(400), pool, ((0, ()),))

    def test_drawn(self):
        chance, found = random.Random(12), {}
        for _ in range(700):
            store, pool = drawn_store(chance), drawn_pool(chance, chance.randint(1, 5), chance.choice(["ab", "abc", "abcd"]))
            lots = Lots(store, pool)
            if len(lots.members) > 16:
                continue
            expected = lots.first()
            self.group(store, pool, expected)
            found[len(expected or ())] = True
        self.gives(sorted(found), list(range(len(found))))
        self.gives(len(found) > 3, True)

    def test_drawn_with_many_wants(self):
        chance, found = random.Random(13), {}
        for _ in range(400):
            words, pool = WORDS[:chance.randint(2, 4)], []
            for _ in range(chance.randint(3, 6)):
                terms = ["?d", "?d", 0]
                says, wants = [
                    [(chance.choice(words), tuple(chance.choice(terms) for _ in range(chance.choice((0, 1))))) for _ in range(chance.choice((1, 2)))]
                    for _ in "sw"
                ]
                writes = [("in", "seat", (chance.choice(terms), chance.choice("ab")))] if chance.random() < 0.4 else []
                pool.append(wish(says, wants, writes))
            pool = pool_of(pool)
            expected = Lots(days(2), pool).first()
            self.group(days(2), pool, expected)
            found[len(expected or ())] = True
        self.gives(len(found) > 4, True)


class Bounds(Case):
    def test_wishes(self):
        self.gives(first_group(days(5), tuple((number, wish()) for number in range(12))), ((0, (0,)),))
        pool = tuple((number, wish()) for number in range(13))
        self.raises("TooMany", {"limit": 12}, first_group, days(5), pool)
        self.raises("TooMany", {"limit": 12}, first_group, days(0), pool)

    def test_members(self):
        self.gives(first_group(days(30), pool_of([wish(), wish()])), ((0, (0,)),))
        self.raises("TooMany", {"limit": 60}, first_group, days(31), pool_of([wish(), wish()]))
        self.raises("TooMany", {"limit": 12}, first_group, days(400), tuple((number, wish()) for number in range(13)))


class HardPools(Case):
    """Twelve wishes with sixty members."""

    def numbers(self, store, pool, expected):
        self.gives(len(candidates(store, pool)) > 55, True)
        found = first_group(store, pool)
        self.gives(found and tuple(number for number, _ in found), expected)
        if found is not None:
            self.gives(group_error(store, pool, found), None)
        return found

    def test_rings(self):
        self.gives(self.numbers(days(5), ring(12), tuple(range(12))), tuple((number, (0,)) for number in range(12)))
        self.numbers(days(5), ring(12, ()), tuple(range(12)))
        pool = ring(12)
        broken = pool[:11] + ((11, wish([(WORDS[11], ("?d",))], [(WORDS[0], (7,))])),)
        self.numbers(days(5), broken, None)
        last = pool[:11] + ((11, wish([(WORDS[11], ("?d",))], [(WORDS[0], ("?d",)), (WORDS[3], (4,))])),)
        self.gives(self.numbers(days(5), last, tuple(range(12)))[0], (0, (4,)))

    def test_seats(self):
        self.numbers(days(5), ring(12, (), True), None)
        found = self.numbers(days(8), ring(7, (), True), tuple(range(7)))
        self.gives([filling for _, filling in found], [(number,) for number in range(7)])

    def test_seats_that_are_one_too_few(self):
        self.numbers(days(7), ring(8, (), True), None)

    def test_chain(self):
        self.numbers(days(5), chain(12), None)

    def test_others_that_stand(self):
        self.numbers(days(5), strangers(12), (0, 11))
        self.numbers(days(5), shortcut(12), (0, 11))
        self.numbers(days(5), needless(12), (0,) + tuple(range(2, 12)))


if __name__ == "__main__":
    unittest.main()
