"""Tests of onlywith.stores: [B1] to [B4]."""

import itertools
import unittest

from support import ANY, Case, nested, steady

store_error = steady("stores", "store_error")
fact_rank = steady("stores", "fact_rank")
key_of = steady("stores", "key_of")
rival = steady("stores", "rival")
change_error = steady("stores", "change_error")
changed = steady("stores", "changed")

# p has no key, q a key of one column, r one of two columns, s one of all columns.
SCHEMA = (("p", 1, ()), ("q", 2, (0,)), ("r", 3, (0, 2)), ("s", 2, (0, 1)))
FACTS = (
    ("p", (3,)), ("p", (7,)), ("p", ("bo",)), ("q", (1, "a")), ("q", ("a", 1)), ("r", (1, 1, 1)), ("r", (1, 1, 2)),
    ("r", (1, "x", 3)), ("s", (1, 1)), ("s", (1, 2)),
)
STORE = (SCHEMA, FACTS)


def many_facts(many, relation="p"):
    return tuple((relation, (number,)) for number in range(many))


class StoreError(Case):
    def test_right(self):
        self.gives(store_error(STORE), None)
        self.gives(store_error(((), ())), None)
        self.gives(store_error((SCHEMA, ())), None)

    def test_form(self):
        for value in ANY + [list(STORE), STORE + ((),), STORE[:1], {SCHEMA: FACTS}]:
            if not (isinstance(value, tuple) and len(value) == 2):
                self.gives(store_error(value), "form")

    def test_any_pair(self):
        for value in ANY:
            error = store_error((value, value))
            self.gives(error == "schema" or error is None or error[0] in ("relation", "fact"), True)
            self.gives(store_error((SCHEMA, value)) in ("facts", ("fact", 0), None), True)
            if not isinstance(value, tuple):
                self.gives((store_error((value, ())), store_error((SCHEMA, value))), ("schema", "facts"))

    def test_schema(self):
        nine = tuple((word, 1, ()) for word in "abcdefghi")
        self.gives(store_error((nine[:8], ())), None)
        self.gives(store_error((nine, ())), "schema")
        self.gives(store_error((list(SCHEMA), FACTS)), "schema")
        self.gives(store_error((nine + (None,), None)), "schema")

    def test_relation(self):
        wrong = [
            None, (), ("p", 1), ("p", 1, (), ()), ["p", 1, ()], ("P", 1, ()), ("", 1, ()), (7, 1, ()), ("?p", 1, ()),
            ("p" * 13, 1, ()), (None, 1, ()), (["p"], 1, ()), ("p", 0, ()), ("p", 7, ()), ("p", -1, ()), ("p", True, ()),
            ("p", "a", ()), ("p", None, ()), ("p", (1,), ()), ("p", 10 ** 399, ()), ("p", 2, None), ("p", 2, [0]),
            ("p", 2, 0), ("p", 2, (2,)), ("p", 2, (-1,)), ("p", 2, (1, 0)), ("p", 2, (0, 0)), ("p", 2, (True,)),
            ("p", 2, (0, True)), ("p", 2, (False,)), ("p", 2, ("a",)), ("p", 2, (None,)), ("p", 2, (0, 1, 2)),
            ("p", 2, ((),)), ("p", 1, (1,)), ("p", 6, (0, 6)),
        ]
        for relation in wrong:
            self.gives(store_error(((relation,), ())), ("relation", 0))
            self.gives(store_error(((("a", 6, ()), ("b", 6, ()), relation, relation), None)), ("relation", 2))

    def test_right_relations(self):
        for width in range(1, 7):
            for size in range(width + 1):
                for key in itertools.combinations(range(width), size):
                    self.gives(store_error(((("p" * 12, width, key),), ())), None)

    def test_order_of_relations(self):
        one, other, third = ("a", 1, ()), ("b", 1, ()), ("c", 1, ())
        self.gives(store_error(((one, other, third), ())), None)
        self.gives(store_error(((one, one), ())), ("relation", 1))
        self.gives(store_error(((one, third, other, other), ())), ("relation", 2))
        self.gives(store_error(((one, ("a", 2, (0,))), ())), ("relation", 1))
        self.gives(store_error(((("ab", 1, ()), ("aba", 1, ()), ("b", 1, ())), ())), None)

    def test_facts(self):
        self.gives(store_error((SCHEMA, many_facts(400))), None)
        self.gives(store_error((SCHEMA, many_facts(401))), "facts")
        self.gives(store_error((SCHEMA, (None,) * 401)), "facts")
        self.gives(store_error((SCHEMA, list(FACTS))), "facts")
        self.gives(store_error(((("p", 1, ()), None), list(FACTS))), ("relation", 1))

    def test_fact(self):
        wrong = [
            None, (), ("p",), ("p", (1,), ()), ["p", (1,)], ("o", (1,)), ("", ()), (None, (1,)), (["p"], (1,)), ({}, (1,)),
            (1, (1,)), ("p", [1]), ("p", 1), ("p", ()), ("p", (1, 2)), ("p", (True,)), ("p", (None,)), ("p", ("?x",)),
            ("p", ("A",)), ("p", ("",)), ("p", ((1,),)), ("p", (10 ** 9 + 1,)), ("p", ([],)), ("q", (1,)),
            ("q", (1, False)), ("p", nested(1, 18)), ("p", tuple(range(3000))), ("p", {1: 1}), ("p", "a"), ("q", "ab"),
        ]
        for fact in wrong:
            self.gives(store_error((SCHEMA, (fact,))), ("fact", 0))
            self.gives(store_error((SCHEMA, (("p", (9,)), ("p", (3,)), fact, fact))), ("fact", 2))

    def test_order_of_facts(self):
        self.gives(store_error((SCHEMA, (("p", (3,)), ("p", (3,))))), ("order", 1))
        self.gives(store_error((SCHEMA, (("p", (3,)), ("p", (7,)), ("p", (5,)), ("p", (1,))))), ("order", 2))
        self.gives(store_error((SCHEMA, (("p", ("a",)), ("p", (3,))))), ("order", 1))
        self.gives(store_error((SCHEMA, (("p", (-3,)), ("p", (3,)), ("p", (20,)), ("p", ("a",))))), None)
        self.gives(store_error((SCHEMA, (("q", (1, 1)), ("p", (3,))))), ("order", 1))
        self.gives(store_error((SCHEMA, (("q", (1, "b")), ("q", (1, 2))))), ("order", 1))

    def test_key(self):
        self.gives(store_error((SCHEMA, (("q", (1, 1)), ("q", (1, 2))))), ("key", 0, 1))
        self.gives(store_error((SCHEMA, (("p", (1,)), ("q", (1, 1)), ("q", (1, 2)), ("q", (1, 3))))), ("key", 1, 2))
        self.gives(store_error((SCHEMA, (("r", (1, 1, 1)), ("r", (1, 1, 2)), ("r", (1, 2, 1))))), ("key", 0, 2))
        self.gives(store_error((SCHEMA, (("q", (2, 1)), ("r", (1, 1, 1)), ("r", (1, 1, 2)), ("r", (1, 2, 2)), ("r", (1, 3, 1))))),
                   ("key", 1, 4))
        self.gives(store_error((SCHEMA, (("s", (1, 1)), ("s", (1, 2)), ("s", (2, 1))))), None)
        self.gives(store_error((SCHEMA, (("q", (1, 5)), ("r", (1, 2, 1)), ("s", (1, 5))))), None)

    def test_key_behind_order(self):
        self.gives(store_error((SCHEMA, (("q", (1, 1)), ("q", (1, 2)), ("p", (1,))))), ("order", 2))


class Keys(Case):
    def test_fact_rank(self):
        self.gives(fact_rank(("rides", ("bo", 7, -1))), ("rides", ((1, "bo"), (0, 7), (0, -1))))
        facts = [("q", (1, "a")), ("p", ("a",)), ("p", (7,)), ("q", (1, 2)), ("p", (-7,)), ("o", ("z",))]
        self.gives(sorted(facts, key=fact_rank),
                   [("o", ("z",)), ("p", (-7,)), ("p", (7,)), ("p", ("a",)), ("q", (1, 2)), ("q", (1, "a"))])

    def test_key_of(self):
        self.gives(key_of(SCHEMA, ("p", (3,))), None)
        self.gives(key_of(SCHEMA, ("q", (0, "a"))), ("q", (0,)))
        self.gives(key_of(SCHEMA, ("r", (1, 2, "c"))), ("r", (1, "c")))
        self.gives(key_of(SCHEMA, ("s", (1, 2))), ("s", (1, 2)))

    def test_rival(self):
        self.gives(rival(STORE, ("q", (1, "b"))), ("q", (1, "a")))
        self.gives(rival(STORE, ("q", ("a", 2))), ("q", ("a", 1)))
        self.gives(rival(STORE, ("r", (1, 9, 3))), ("r", (1, "x", 3)))
        self.gives(rival(STORE, ("r", (1, 9, 2))), ("r", (1, 1, 2)))

    def test_no_rival(self):
        others = (("q", (2, "a")), ("r", (1, 1, 4)), ("r", (2, 1, 1)), ("s", (1, 3)), ("p", (4,)))
        for fact in FACTS + others:
            self.gives(rival(STORE, fact), None)
        self.gives(rival((SCHEMA, ()), ("q", (1, 1))), None)


class ChangeError(Case):
    def test_right(self):
        for change in (
            ((), ()), (FACTS, ()), ((), FACTS), ((("p", (4,)), ("q", (8, 8))), ()), ((), (("p", (4,)), ("q", (8, 8)))),
            ((("q", (1, "a")),), (("q", (1, "b")),)), ((("q", (1, "z")),), (("q", (2, "b")),)),
        ):
            self.gives(change_error(STORE, change), None)

    def test_form(self):
        for value in ANY + [[(), ()], ((), ()) * 2, ((),), ([], ()), ((), []), (None, ()), ((), None), ((), {}), ("", "")]:
            if not (isinstance(value, tuple) and len(value) == 2 and all(isinstance(side, tuple) for side in value)):
                self.gives(change_error(STORE, value), "form")
                self.raises("BadChange", {"error": "form"}, changed, STORE, value)

    def test_any_sides(self):
        for value in ANY:
            if isinstance(value, tuple) and value:
                self.gives(change_error(STORE, (value, ())), ("out", 0))
                self.gives(change_error(STORE, ((), value)), ("in", 0))

    def test_out_and_in(self):
        right, wrong = (("p", (4,)), ("p", (5,))), [
            (("p", (6,)), ("p", (True,))), (("p", (6,)), None), (("p", (6,)), ["p", (7,)]), (("p", (6,)), ("p", (6,))),
            (("p", ("a",)), ("p", (6,))), (("q", (1, 1)), ("p", (8,))), (("p", (6,)), ("o", (7,))),
            (("p", (6,)), ("p", (7, 7))), (("p", (6,)), ({}, (7,))),
        ]
        for side in wrong:
            self.gives(change_error(STORE, (side, right)), ("out", 1))
            self.gives(change_error(STORE, (right, side)), ("in", 1))
            self.gives(change_error(STORE, (side, (None,))), ("out", 1))
            self.gives(change_error(STORE, ((("p", (1,)),) + side + side, ())), ("out", 2))
        self.gives(change_error(STORE, ((("p", 3), None), ())), ("out", 0))

    def test_both(self):
        outs = (("p", (3,)), ("p", (4,)), ("q", (1, "a")))
        self.gives(change_error(STORE, (outs, (("p", (2,)), ("p", (4,)), ("q", (1, "a"))))), ("both", ("p", (4,))))
        self.gives(change_error(STORE, (outs, (("q", (1, "a")), ("q", (1, "b"))))), ("both", ("q", (1, "a"))))
        self.gives(change_error(STORE, (outs, (("q", (1, "a")), ("q", (1, True))))), ("in", 1))

    def test_key(self):
        self.gives(change_error(STORE, ((), (("q", (1, "b")),))), ("key", ("q", (1, "b"))))
        self.gives(change_error(STORE, ((), (("q", (2, 1)), ("q", (2, 2))))), ("key", ("q", (2, 1))))
        self.gives(change_error(STORE, ((), (("p", (9,)), ("q", (2, 1)), ("r", (1, 2, 1)), ("r", (1, 2, 2))))),
                   ("key", ("r", (1, 2, 1))))
        self.gives(change_error(STORE, ((("q", (1, "a")),), (("q", (1, "b")), ("q", (1, "c"))))), ("key", ("q", (1, "b"))))
        self.gives(change_error(STORE, ((), (("q", (1, "a")), ("q", (1, "c"))))), ("key", ("q", (1, "a"))))
        self.gives(change_error(STORE, ((("r", (1, 1, 1)),), (("r", (1, 5, 1)), ("s", (1, 1)), ("s", (1, 3))))), None)

    def test_many(self):
        store = (SCHEMA, many_facts(399))
        more = tuple(("p", (number,)) for number in range(399, 405))
        self.gives(change_error(store, ((), more[:1])), None)
        self.gives(change_error(store, ((), more[:2])), "many")
        self.gives(change_error(store, (many_facts(1), more[:2])), None)
        self.gives(change_error(store, ((("p", ("a",)),), more[:2])), "many")
        self.gives(change_error(store, ((), many_facts(400))), None)
        self.gives(change_error(store, (many_facts(399), tuple(("p", (number,)) for number in range(1000, 1400)))), None)
        self.gives(change_error(store, (many_facts(399), tuple(("p", (number,)) for number in range(1000, 1401)))), "many")

    def test_key_ahead_of_many(self):
        store = (SCHEMA, many_facts(399))
        self.gives(change_error(store, ((), (("q", (1, 1)), ("q", (1, 2))))), ("key", ("q", (1, 1))))
        self.gives(change_error(store, ((("q", (1, 1)),), (("q", (1, 1)), ("q", (1, 2))))), ("both", ("q", (1, 1))))


class Changed(Case):
    def test_changes_nothing(self):
        for change in (((), ()), ((), FACTS), ((("p", (4,)), ("q", (1, "b"))), ())):
            self.gives(changed(STORE, change), STORE)

    def test_order_behind(self):
        change = ((("p", (3,)), ("s", (1, 2))), (("p", (-1,)), ("p", (10,)), ("p", ("a",)), ("q", (1, "a"))))
        expected = (("p", (-1,)), ("p", (7,)), ("p", (10,)), ("p", ("a",)), ("p", ("bo",))) + FACTS[3:-1]
        self.gives(changed(STORE, change), (SCHEMA, expected))
        self.gives(store_error(changed(STORE, change)), None)

    def test_all_out(self):
        self.gives(changed(STORE, (FACTS, ())), (SCHEMA, ()))
        self.gives(changed((SCHEMA, ()), ((), FACTS)), STORE)

    def test_bad_change(self):
        for change in (((), (("q", (1, "b")),)), ((("p", 3),), ()), (FACTS[:1], FACTS[:1]), ([], ()), ((), (("p", (False,)),))):
            self.raises("BadChange", {"error": change_error(STORE, change)}, changed, STORE, change)
        self.raises("BadChange", {"error": "many"}, changed, (SCHEMA, many_facts(400)), ((), (("p", ("a",)),)))


if __name__ == "__main__":
    unittest.main()
