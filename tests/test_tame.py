"""Tests of onlywith.tame: [F1] to [F8]."""

import random
import unittest

from pools import Lots
from support import Case, steady
from tamepools import SCHEMA, drawn_pool, drawn_store

tame_error = steady("tame", "tame_error")
makers = steady("tame", "makers")
partners = steady("tame", "partners")
joined = steady("tame", "joined")
tame_first = steady("tame", "tame_first")
tame_paper = steady("tame", "tame_paper")
first_group = steady("groups", "first_group")
answers = steady("questions", "answers")
lets_by = steady("questions", "lets_by")
question_variables = steady("questions", "question_variables")
stands = steady("lots", "stands")

KEYED = (("day", 1, ()), ("seat", 2, (0,)), ("tag", 2, ()), ("way", 2, ()))
DAY = ((("day", ("?d",)),), ())
WAY = ((("way", ("?x", "?y")),), ())
WORDS = ["w" + "abcdefghij"[at // 10] + "abcdefghij"[at % 10] for at in range(50)]


def wish(says=(), wants=(), writes=(), body=WAY):
    return (body, tuple(says), tuple(wants), tuple(writes))


def days(many):
    return (KEYED, tuple(("day", (number,)) for number in range(many)))


def ways(pairs):
    return (KEYED, tuple(("way", pair) for pair in sorted(pairs)))


def ring(many, closed=True, says=("?x",), wants=("?y",), body=WAY):
    """Each wish wants what the next one says; the last one what the first one says, if it is closed."""
    last = [(WORDS[0], wants)] if closed else []
    return tuple((number, wish([(WORDS[number], says)], [(WORDS[number + 1], wants)] if number < many - 1 else last, (), body)) for number in range(many))


class TameError(Case):
    def test_tame(self):
        for pool in ((), ((3, wish()),), ring(40), ring(40, False), ((0, wish([("a", ())] * 4, [("a", ()), ("b", ())])),)):
            self.gives(tame_error(KEYED, pool), None)

    def test_writes(self):
        right, key, out = ("in", "tag", ("?x", 1)), ("in", "seat", ("?x", 1)), ("out", "tag", ("?x", 1))
        self.gives(tame_error(KEYED, ((0, wish(writes=(right,) * 6)),)), None)
        self.gives(tame_error(KEYED, ((0, wish()), (4, wish(writes=(right, key))))), ("key", 4))
        self.gives(tame_error(KEYED, ((0, wish()), (4, wish(writes=(right, out))))), ("out", 4))
        self.gives(tame_error(KEYED, ((4, wish(writes=(key, out))),)), ("out", 4))
        self.gives(tame_error(KEYED, ((4, wish(writes=(("out", "seat", (1, 1)),))),)), ("out", 4))
        self.gives(tame_error((KEYED[0], ("seat", 2, ())) + KEYED[2:], ((4, wish(writes=(key,))),)), None)

    def test_wants(self):
        asks = wish([], [("b", (1,)), ("a", ("?x",)), ("a", ("?x",))])
        self.gives(tame_error(KEYED, ((0, asks), (1, wish([("a", (1,))])), (2, wish([("a", (2,))])))), ("want", 0, 1))
        self.gives(tame_error(KEYED, ((0, wish([("a", (1,)), ("a", (1,))])), (7, asks))), ("want", 7, 1))
        self.gives(tame_error(KEYED, ((0, wish([("a", (1,)), ("b", ("?y",))])), (7, asks))), None)
        self.gives(tame_error(KEYED, ((0, wish([("a", (1,))])), (3, wish([("a", (1, 2)), ("b", (1,)), ("a", ("?x", "?x"))])), (7, asks))), None)

    def test_own_sayings_do_not_count(self):
        both = wish([("a", ("?x",)), ("a", ("?y",))], [("a", (1,))])
        self.gives(tame_error(KEYED, ((0, both),)), None)
        self.gives(tame_error(KEYED, ((0, both), (1, wish([("a", (1,))])))), None)
        self.gives(tame_error(KEYED, ((0, both), (1, wish([("a", (1,))], [("a", (1,))])))), ("want", 1, 0))

    def test_first_wish_and_first_arm(self):
        want, out, key = wish([], [("a", ())]), wish(writes=[("out", "tag", (1, 1))]), wish(writes=[("in", "seat", (1, 1))])
        says = wish([("a", ())] * 2)
        self.gives(tame_error(KEYED, ((0, want), (1, says), (2, out), (3, key))), ("want", 0, 0))
        self.gives(tame_error(KEYED, ((0, says), (2, key), (3, out), (4, want))), ("key", 2))
        self.gives(tame_error(KEYED, ((0, says), (2, wish([], [("a", ())], [("out", "tag", (1, 1))])))), ("out", 2))
        self.gives(tame_error(KEYED, ((0, says), (2, wish([], [("a", ())], [("in", "seat", (1, 1))])))), ("key", 2))

    def test_far_away(self):
        pool = ring(39, False)
        self.gives(tame_error(KEYED, pool + ((50, wish([(WORDS[7], ("?x",))])),)), ("want", 6, 0))
        self.gives(tame_error(KEYED, ((0, wish([(WORDS[38], (1,))])),) + tuple((number + 1, value) for number, value in pool)), ("want", 38, 0))


class Makers(Case):
    def test_all_pairs(self):
        pool = ((1, wish([("a", ("?x",)), ("b", ()), ("a", (3,))])), (4, wish([("a", ("?x",))], [("a", ("?y",)), ("b", ()), ("c", ())])),
                (6, wish([("a", (7,)), ("a", (1, 1))])))
        self.gives([makers(pool, 4, place) for place in range(3)], [((1, 0), (1, 2), (6, 0)), ((1, 1),), ()])

    def test_shapes(self):
        for saying, want, right in (
            (("?x", "?x"), (3, 4), False), (("?x", "?x"), ("?x", 4), True), (("?x", 3), ("?y", "?x"), True), (("?x",), ("?x", "?x"), False),
            (("?x", "?x", 3), ("?y", 4, "?y"), False), ((), (), True), ((1,), (2,), False), (("a",), ("?x",), True),
        ):
            pool = ((0, wish([("a", saying)])), (1, wish([], [("a", want)])))
            self.gives(makers(pool, 1, 0), ((0, 0),) if right else ())

    def test_tests_and_store_are_not_asked(self):
        pool = ((0, wish([("a", ("?d",))], body=(DAY[0], (("=", "?d", 5),)))), (1, wish([], [("a", (4,))])))
        self.gives(makers(pool, 1, 0), ((0, 0),))


class Partners(Case):
    def test_rings_and_chains(self):
        everyone = tuple(range(40))
        self.gives([partners(ring(40), number) for number in (0, 17, 39)], [everyone] * 3)
        self.gives([partners(ring(40, False), number) for number in (0, 17, 39)], [everyone, everyone[17:], (39,)])
        lacking = ring(40, False)[:39] + ((39, wish([(WORDS[39], ())], [("no", ())])),)
        self.gives(partners(lacking, 0), None)

    def test_lack_at_the_wish_and_far_away(self):
        pool = ((0, wish([("a", ())], [("b", ())])), (3, wish([("b", ())], [("c", ())])), (5, wish([("d", ())], [("e", ()), ("a", ())])))
        self.gives([partners(pool, number) for number in (0, 3, 5)], [None, None, None])
        more = pool + ((9, wish([("c", ())])),)
        self.gives([partners(more, number) for number in (0, 3, 5, 9)], [(0, 3, 9), (3, 9), None, (9,)])

    def test_several_wants(self):
        pool = ((0, wish([("a", ())])), (1, wish([], [("a", ()), ("c", ()), ("a", ())])), (2, wish([("b", ())])), (3, wish([("c", ())], [("b", ())])))
        self.gives([partners(pool, number) for number in range(4)], [(0,), (0, 1, 2, 3), (2,), (2, 3)])

    def test_order(self):
        pool = ((2, wish([("a", ())])), (10, wish([("b", ())], [("a", ())])), (100, wish([], [("b", ())])))
        self.gives(partners(pool, 100), (2, 10, 100))


class Joined(Case):
    def test_chain_of_equations_with_values_at_the_ends(self):
        def between(first, last):
            return ((0, wish([("a", (first,))], [("b", ("?x",))])), (1, wish([("b", ("?y",))], [("c", ("?y",))])),
                    (2, wish([("c", ("?x",))], [("d", ("?x",))])), (3, wish([("d", (last,))])))

        self.gives(joined(between(1, 5), 0), (
            (("way", (5, "?y.0")), ("way", ("?x.1", 5)), ("way", (5, "?y.2")), ("way", ("?x.3", "?y.3"))), ()))
        self.gives(joined(between(1, "?y"), 0)[0][3], ("way", ("?x.3", "?x.0")))
        pool = between(1, 5)[:3] + ((3, wish([("d", (5,))], [("a", (2,))])),)
        self.gives((partners(pool, 0), joined(pool, 0)), (None, None))
        unlike = ((0, wish([("a", ("?x",))], [("b", ("?x",)), ("c", ("?x",))])), (1, wish([("b", (1,)), ("c", (2,))])))
        self.gives((partners(unlike, 0), joined(unlike, 0), joined(unlike, 1)), ((0, 1), None, (((("way", ("?x.1", "?y.1")),), ()))))

    def test_least_variable_of_a_class(self):
        pool = ((2, wish([], [("a", ("?x", "?y"))])), (10, wish([("a", ("?y", "?x"))])))
        self.gives(joined(pool, 2), ((("way", ("?x.2", "?x.10")), ("way", ("?x.10", "?x.2"))), ()))
        far = ((9, wish([], [("a", ("?x",))])), (10, wish([("a", ("?x",))])))
        self.gives(joined(far, 9), ((("way", ("?x.10", "?y.9")), ("way", ("?x.10", "?y.10"))), ()))

    def test_marks_do_not_run_into_one_another(self):
        body = ((("way", ("?a", "?ab")), ("way", ("?a", "?b"))), (("!=", "?a", "?ab"),))
        pool = ((1, wish([("a", ())], body=body)), (11, wish([("b", ())], [("a", ())], body=body)), (111, wish([], [("b", ())], body=body)))
        found = joined(pool, 111)
        self.gives(found[0][0::2], (("way", ("?a.1", "?ab.1")), ("way", ("?a.11", "?ab.11")), ("way", ("?a.111", "?ab.111"))))
        self.gives(len(question_variables(found)), 9)

    def test_patterns_that_come_to_be_alike(self):
        pool = ((0, wish([("a", ("?x", "?y"))], [("b", ("?y",))])), (1, wish([("b", ("?y",))], [("a", ("?x", "?y"))])))
        self.gives(joined(pool, 1), ((("way", ("?x.0", "?y.0")),) * 2, ()))

    def test_tests(self):
        body = (WAY[0], (("<", "?x", "?y"), ("!=", "?x", 3), ("=", 1, 2)))
        pool = ((0, wish([], [("a", (7, "?y"))], body=body)), (1, wish([("a", ("?x", 5))], body=body)))
        self.gives(joined(pool, 0)[1], (("<", "?x.0", 5), ("!=", "?x.0", 3), ("=", 1, 2), ("<", 7, "?y.1"), ("!=", 7, 3), ("=", 1, 2)))

    def test_more_than_a_question_has(self):
        found = joined(ring(40, body=(WAY[0] * 6, (("=", "?x", "?x"),) * 6)), 0)
        self.gives((len(found[0]), len(found[1]), len(question_variables(found))), (240, 240, 40))
        store = ways([(number, (number + 1) % 5) for number in range(5)])
        self.gives(len(answers(store, found)), 5)
        self.gives(lets_by(store, found, answers(store, found)[2]), True)

    def test_own_saying_is_no_partner(self):
        pool = ((0, wish([("a", ("?x",))], [("a", ("?y",))])), (1, wish([("a", ("?y",))])))
        self.gives(joined(pool, 0), ((("way", ("?x.0", "?y.0")), ("way", ("?x.1", "?y.0"))), ()))


class TameFirst(Case):
    def test_not_tame(self):
        for pool in (((0, wish(writes=[("out", "tag", (1, 1))])),), ((3, wish(writes=[("in", "seat", (1, 1))])),),
                     ((0, wish([("a", ())] * 2)), (4, wish([], [("b", ()), ("a", ())])))):
            self.raises("NotTame", {"error": tame_error(KEYED, pool)}, tame_first, days(1), pool)

    def test_rings(self):
        store = ways([(number, (number + 1) % 5) for number in range(5)])
        self.gives(tame_first(store, ring(40)), tuple((number, (number % 5, (number + 1) % 5)) for number in range(40)))
        store = ways([(number, (number + 1) % 7) for number in range(7)])
        self.gives(tame_first(store, ring(40)), None)
        self.gives(tame_paper(store, ring(40), 3), ("ends", 40))

    def test_rings_with_many_ways(self):
        layers = [(7 * one + layer, 7 * other + (layer + 1) % 7) for layer in range(7) for one in range(7) for other in range(7)]
        self.gives((tame_first(ways(layers), ring(40)), tame_paper(ways(layers), ring(40), 0)), (None, ("ends", 40)))
        found = tame_first(ways(layers), ring(35))
        self.gives([filling for _, filling in found][:8], [(0, 1), (1, 2), (2, 3), (3, 4), (4, 5), (5, 6), (6, 0), (0, 1)])

    def test_very_many_fillings(self):
        body = (tuple(("day", (name,)) for name in ("?a", "?b", "?c", "?d", "?e", "?f")), (("<", "?f", "?e"), ("<", 3, "?f")))
        pool = tuple((number, wish([(WORDS[number], ("?e",))], [(WORDS[(number + 1) % 20], ("?f",))], body=body)) for number in range(20))
        self.gives(tame_first(days(400), pool), None)
        found = tame_first(days(400), ring(20, False, ("?e",), ("?f",), body))
        self.gives(found[0], (0, (0, 0, 0, 0, 24, 23)))
        self.gives(found[19], (19, (0, 0, 0, 0, 5, 4)))

    def test_least_of_its_partners(self):
        # 5 needs 2, which stands alone; 2 is first.
        pool = ((2, wish([("a", ("?x",))])), (5, wish([], [("a", ("?y",))])))
        store = ways([(1, 2), (2, 3)])
        self.gives(tame_first(store, pool), ((2, (1, 2)),))
        never = ((2, wish([("a", ("?x",))], body=(WAY[0], (("=", "?x", 9),)))), (5, wish([], [("a", ("?y",))])), (7, wish()))
        self.gives(tame_first(store, never), ((7, (1, 2)),))

    def test_least_fillings(self):
        # The first wish's least filling leaves the second one no choice.
        store = (KEYED, (("way", (-4, "b")), ("way", (3, 9)), ("way", (3, 20)), ("way", (20, "a")), ("way", ("a", 9)), ("way", ("b", 3))))
        pool = ((0, wish([("a", ("?y",))], [("b", ("?x",))])), (1, wish([("b", ("?y",))], [("a", ("?x",))])))
        self.gives(tame_first(store, pool), None)
        pool = ((0, wish([], [("b", ("?y",))])), (1, wish([("b", ("?x",))])))
        self.gives(tame_first(store, pool), ((0, (-4, "b")), (1, ("b", 3))))
        pool = ((0, wish([], [("b", ("?y",))], body=(WAY[0], (("<", 0, "?x"),)))), (1, wish([("b", ("?x",))])))
        self.gives(tame_first(store, pool), ((0, (3, 20)), (1, (20, "a"))))

    def test_dead_ends_that_show_late(self):
        # On the day 0 there are two ways for three that are unlike; no two of these alone show it.
        body = ((("way", ("?a", "?b")), ("way", ("?a", "?c")), ("way", ("?a", "?d"))), (("!=", "?b", "?c"), ("!=", "?b", "?d"), ("!=", "?c", "?d")))
        store = ways([(0, 1), (0, 2), (1, 1), (1, 2), (1, 3)])
        self.gives(tame_first(store, ((0, wish(body=body)),)), ((0, (1, 1, 2, 3)),))
        self.gives(answers(store, body)[0], (1, 1, 2, 3))
        few = ways([(0, 1), (0, 2), (1, 1), (1, 2)])
        self.gives((tame_first(few, ((0, wish(body=body)),)), tame_paper(few, ((0, wish(body=body)),), 0)), (None, ("ends", 3)))

    def test_no_limits(self):
        pool = tuple((number, wish([(WORDS[number], ("?d",))], [(WORDS[(number + 1) % 40], ("?d",))], body=DAY)) for number in range(40))
        self.gives(tame_first(days(400), pool), tuple((number, (0,)) for number in range(40)))
        self.raises("TooMany", {"limit": 12}, first_group, days(400), pool)

    def test_drawn(self):
        chance, found = random.Random(31), {}
        for _ in range(500):
            store, pool = drawn_store(chance), drawn_pool(chance, chance.randint(1, 5))
            lots = Lots(store, pool)
            many = 1
            for number, _ in pool:
                many *= 1 + len([member for member in lots.members if member[0] == number])
            error = tame_error(SCHEMA, pool)
            if error is not None:
                self.raises("NotTame", {"error": error}, tame_first, store, pool)
            elif many < 3000:
                expected = lots.first()
                self.gives(tame_first(store, pool), expected)
                if len(lots.members) <= 60:
                    self.gives(first_group(store, pool), expected)
                found[len(expected or ())] = True
                self.papers(lots, found)
        self.gives(len([word for word in found if isinstance(word, str)]), 4)
        self.gives(len(found) > 7, True)

    def papers(self, lots, found):
        """What tame_paper tells for each number, by all lots that stand."""
        store, pool = lots.store, lots.pool
        numbers = [tuple(number for number, _ in lot) for lot in lots.all_standing()]
        for number, _ in pool:
            paper = tame_paper(store, pool, number)
            self.gives(paper is None, partners(pool, number) in numbers)
            found[paper[0] if paper else "none"] = True
            if partners(pool, number) is None:
                self.gives(paper[0], "lack")
            elif joined(pool, number) is None:
                self.gives(paper, ("unlike",))
            elif paper is not None:
                self.gives(paper[1] == 0 or not self.some(store, joined(pool, number), paper[1]), True)
                self.gives(self.some(store, joined(pool, number), paper[1] - 1) if paper[1] else False, paper[1] > 0)

    def some(self, store, question, many):
        """Whether the first so many patterns have an answer, with those tests that count."""
        patterns, tests = question[0][:many], question[1]
        there = question_variables((patterns, ()))
        tests = tuple(test for test in tests if all(str(term)[0] != "?" or term in there for term in test[1:]))
        # With a pattern that is there anyhow, no patterns have the one answer ().
        anyhow = ((KEYED[0], ("zero", 1, ())), store[1] + (("zero", (0,)),))
        return bool(answers(anyhow, (patterns + (("zero", (0,)),), tests)))


class TamePaper(Case):
    def test_lack(self):
        pool = ((0, wish([("a", ())], [("b", ()), ("no", ())])), (3, wish([("b", ())], [("a", ()), ("c", ()), ("d", ())])), (5, wish([("e", ())], [("b", ())])))
        self.gives([tame_paper(days(1), pool, number) for number in (0, 3, 5)], [("lack", 0, 1)] * 3)
        more = pool[:1] + ((3, wish([("b", ())], [("c", ()), ("d", ())])),) + pool[2:]
        self.gives([tame_paper(days(1), more, number) for number in (0, 3, 5)], [("lack", 0, 1), ("lack", 3, 0), ("lack", 3, 0)])

    def test_lack_ahead_of_the_others(self):
        pool = ((0, wish([], [("a", (1,)), ("b", (1,))])), (1, wish([("a", (1,)), ("b", ("?x",))], [("c", ())], body=(WAY[0], (("=", 1, 2),)))))
        self.gives(tame_paper(days(0), pool, 0), ("lack", 1, 0))

    def test_unlike_ahead_of_ends(self):
        pool = ((0, wish([], [("a", ("?x",)), ("b", ("?x",))])), (1, wish([("a", (1,)), ("b", (2,))], body=(WAY[0], (("=", 1, 2),)))))
        self.gives((tame_paper(days(0), pool, 0), tame_paper(days(0), pool, 1)), (("unlike",), ("ends", 0)))

    def test_ends(self):
        store = (KEYED, (("day", (1,)), ("day", (2,)), ("tag", (1, 1)), ("way", (1, 2)), ("way", (2, 3))))
        patterns = (("day", ("?a",)), ("day", ("?b",)), ("way", ("?a", "?b")), ("tag", ("?c", "?a")), ("day", ("?c",)))
        for tests, wrong, many in (
            ((), (), None), ((("=", 1, 2),), (), 0), ((("<", 2, 1), ("=", "?a", 9)), (), 0), ((("=", "?a", 9),), (), 1),
            ((("<", "?b", "?a"),), (), 3), ((("<", "?b", "?a"), ("<", "?a", "?b")), (), 2), ((("=", "?c", 2),), (), 4),
            ((("=", "?a", "?c"),), (), None), ((("!=", "?a", "?c"),), (), 4), ((), (("way", (9, 9)),), 6), ((), (("day", ("?a",)), ("day", (7,))), 7),
            ((("<", 0, 1), ("!=", "a", 1)), (), None),
        ):
            pool = ((4, wish(body=(patterns[:6 - len(wrong)] + wrong if len(wrong) < 2 else patterns[:4] + wrong, tests))),)
            if len(wrong) == 2:
                many = 6
            self.gives(tame_paper(store, pool, 4), None if many is None else ("ends", many))

    def test_ends_in_a_further_wish(self):
        store = ways([(1, 2), (2, 1)])
        pool = ((0, wish([("a", ("?x", "?y"))])), (1, wish([("b", ("?x",))], [("a", (1, "?y"))])), (2, wish([], [("b", (1,))], body=(WAY[0] * 2, (("=", "?x", "?y"),)))))
        self.gives([tame_paper(store, pool, number) for number in range(3)], [None, None, ("ends", 3)])
        pool = pool[:1] + ((1, wish([("b", ("?x",))], [("a", ("?x", "?y"))], body=(WAY[0], (("!=", "?x", "?x"),)))),) + pool[2:]
        # The test is one of the first pattern's variable for 1, and one between two values for 2.
        self.gives([tame_paper(store, pool, number) for number in range(3)], [None, ("ends", 1), ("ends", 0)])

    def test_no_facts(self):
        self.gives(tame_paper(days(0), ring(40), 7), ("ends", 1))

    def test_no_group_but_a_lot(self):
        pool = ((0, wish([("a", ("?x",))])), (1, wish([], [("a", ("?y",))])))
        self.gives([tame_paper(ways([(1, 2), (2, 1)]), pool, number) for number in (0, 1)], [None, None])

    def test_very_many_answers(self):
        body = (tuple(("day", (name,)) for name in ("?a", "?b", "?c", "?d", "?e", "?f")), ())
        pool = tuple((number, wish(body=body)) for number in range(40))
        self.gives(tame_paper(days(400), pool, 39), None)

    def test_long_chain_of_tests(self):
        body = (tuple(("day", (name,)) for name in ("?a", "?b", "?c", "?d", "?e", "?f")),
                tuple(("<", one, other) for one, other in zip(("?a", "?b", "?c", "?d", "?e"), ("?b", "?c", "?d", "?e", "?f"))))
        pool = ring(40, False, ("?a",), ("?f",), body)
        self.gives(tame_first(days(201), pool)[39], (39, (195, 196, 197, 198, 199, 200)))
        self.gives(tame_paper(days(200), pool, 0), ("ends", 240))


class WhatHolds(Case):
    def test_answers_and_lots(self):
        """(b) of [F8]: each answer of joined is a lot that stands, and each such lot an answer."""
        chance, some = random.Random(33), 0
        for _ in range(300):
            store, pool = drawn_store(chance), drawn_pool(chance, chance.randint(2, 4))
            if tame_error(SCHEMA, pool) is not None:
                continue
            lots = Lots(store, pool)
            for number, _ in pool:
                numbers = partners(pool, number)
                question = joined(pool, number)
                if question is None or len(lots.members) > 30:
                    continue
                lots_there = [lot for lot in lots.all_standing() if tuple(member[0] for member in lot) == numbers]
                found = answers(store, question)
                self.gives(len(found), len(lots_there))
                some += len(found) > 0
                self.gives([stands(store, pool, lot) for lot in lots_there[:3]], [True] * len(lots_there[:3]))
        self.gives(some > 50, True)


if __name__ == "__main__":
    unittest.main()
