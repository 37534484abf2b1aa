"""Tests of onlywith.wishes: [C1] to [C3]."""

import unittest

from support import ANY, ODD, Case, steady

wish_error = steady("wishes", "wish_error")
fillings = steady("wishes", "fillings")
said = steady("wishes", "said")
wanted = steady("wishes", "wanted")
writes_of = steady("wishes", "writes_of")
own_clash = steady("wishes", "own_clash")

# day has no key, seat a key of one column, way one of two, all a key of all columns.
SCHEMA = (("all", 2, (0, 1)), ("day", 2, ()), ("seat", 2, (0,)), ("way", 3, (0, 2)))
BODY = ((("day", ("?d", "?n")),), (("<", "?n", 9),))
STORE = (SCHEMA, (("day", ("fri", 5)), ("day", ("mon", 1)), ("day", ("sun", 12)), ("seat", (1, "cy"))))


def wish(body=BODY, sayings=(), wants=(), writes=()):
    return (body, sayings, wants, writes)


class WishError(Case):
    def test_right(self):
        for value in (
            wish(), wish(sayings=(("by", ()),) * 4, wants=(("by", ("?d", "?n", "?d", 1, "a", 0)),) * 4),
            wish(writes=(("in", "day", ("?n", "?d")), ("out", "way", (1, "?n", "?n"))) * 3),
            wish(body=((("day", (1, 2)),), ()), wants=(("w" * 12, (1, "a")),)),
        ):
            self.gives(wish_error(SCHEMA, value), None)

    def test_form(self):
        for value in ANY:
            if not (isinstance(value, tuple) and len(value) == 4):
                self.gives(wish_error(SCHEMA, value), "form")
        say, write = ("by", ()), ("in", "day", (1, 1))
        for value in (
            list(wish()), wish() + ((),), wish()[:3], wish(sayings=[]), wish(wants=[]), wish(writes=[]), wish(sayings=None),
            wish(wants={}), wish(writes="in"), wish(sayings=(say,) * 5), wish(wants=(say,) * 5), wish(writes=(write,) * 7),
            wish(sayings=(None,) * 5, body=None), wish(wants=[say], body=None), wish(writes=3, body=None),
        ):
            self.gives(wish_error(SCHEMA, value), "form")

    def test_body(self):
        for body, error in (
            (None, "form"), ((BODY[0], (), ()), "form"), (((), ()), "patterns"), ((BODY[0] * 7, ()), "patterns"),
            ((BODY[0] + (("way", ("?d",)),), ()), ("pattern", 1)), ((BODY[0], None), "tests"),
            ((BODY[0], (("<", "?x", 1),)), ("test", 0)), (((("day", ("?d.1", True)),), ()), ("pattern", 0)),
        ):
            self.gives(wish_error(SCHEMA, wish(body=body)), ("body", error))
            self.gives(wish_error(SCHEMA, wish(body=body, sayings=(None,), wants=(1,), writes=(2,))), ("body", error))

    def test_any_body(self):
        for body in ANY:
            self.gives(wish_error(SCHEMA, wish(body=body))[0], "body")

    def test_marked(self):
        for terms in (("?d.1", 5), (5, "?d.0"), ("?d", "?d.7")):
            body = ((("day", (1, 1)), ("day", terms)), ())
            self.gives(wish_error(SCHEMA, wish(body=body)), ("body", "marked"))
            self.gives(wish_error(SCHEMA, wish(body=body, sayings=(None,))), ("body", "marked"))
        body = ((("day", ("?d.1", 5)),), (("=", "?d.1", "?d"),))
        self.gives(wish_error(SCHEMA, wish(body=body)), ("body", ("test", 0)))

    def test_saying_and_want(self):
        wrong = [
            None, (), ("by",), ("by", (), ()), ["by", ()], ("By", ()), ("", ()), ("?d", ()), (7, ()), (None, ()), ([], ()),
            ("w" * 13, ()), ("by", []), ("by", None), ("by", "?d"), ("by", (1,) * 7), ("by", ("?d",) * 7), ("by", ("?x",)),
            ("by", (1, "?d.1")), ("by", ("?D",)), ("by", tuple(range(3000))),
        ] + [("by", (1, term)) for term in ODD]
        for item in wrong:
            for place in range(3):
                items = (("by", ("?d",)),) * place + (item, None)
                self.gives(wish_error(SCHEMA, wish(sayings=items)), ("saying", place))
                self.gives(wish_error(SCHEMA, wish(wants=items)), ("want", place))

    def test_write(self):
        wrong = [
            None, (), ("in", "day"), ("in", "day", (1, 1), ()), ["in", "day", (1, 1)], ("put", "day", (1, 1)), ("", "day", (1, 1)),
            (None, "day", (1, 1)), ([], "day", (1, 1)), ("in", "tax", (1, 1)), ("in", "", ()), ("in", None, ()),
            ("in", [], (1, 1)), ("in", {}, (1, 1)), ("in", "day", [1, 1]), ("in", "day", None), ("in", "day", (1,)),
            ("in", "day", (1, 1, 1)), ("in", "way", (1, 1)), ("in", "day", ()), ("in", "day", (1, "?x")), ("out", "day", ("?d.1", 1)),
            ("in", "day", tuple(range(3000))), (True, "day", (1, 1)),
        ] + [("out", "day", (term, 1)) for term in ODD]
        for item in wrong:
            for place in (0, 1, 4):
                items = (("in", "day", ("?d", 1)),) * place + (item, None)
                self.gives(wish_error(SCHEMA, wish(writes=items)), ("write", place))

    def test_first_of_several(self):
        bad = (("by", ("?x",)),)
        value = wish(sayings=(("by", ()),) + bad, wants=bad, writes=(None,))
        self.gives(wish_error(SCHEMA, value), ("saying", 1))
        self.gives(wish_error(SCHEMA, wish(wants=bad, writes=(None,))), ("want", 0))
        self.gives(wish_error(SCHEMA, wish(wants=(("by", ()),) * 2 + bad * 2, writes=(None,))), ("want", 2))

    def test_variables_stand_in_patterns_of_the_body(self):
        body = ((("day", ("?d", 1)), ("seat", ("?s", 2))), (("=", "?d", "?s"),))
        self.gives(wish_error(SCHEMA, wish(body, (("by", ("?s", "?d")),), (("by", ("?s",)),), (("in", "day", ("?s", "?d")),))), None)
        self.gives(wish_error(SCHEMA, wish(body, (("by", ("?s", "?n")),))), ("saying", 0))


class Fillings(Case):
    def test_order(self):
        self.gives(fillings(STORE, wish()), (("fri", 5), ("mon", 1)))
        self.gives(fillings(STORE, wish(((("day", ("?b", "?a")),), ()))), ((1, "mon"), (5, "fri"), (12, "sun")))

    def test_writes_and_wants_are_not_looked_at(self):
        self.gives(fillings(STORE, wish(wants=(("no", ()),), writes=(("in", "seat", (1, "?d")),))), (("fri", 5), ("mon", 1)))

    def test_none_and_empty(self):
        self.gives(fillings((SCHEMA, ()), wish()), ())
        self.gives(fillings(STORE, wish(((("seat", (1, "cy")),), ()))), ((),))

    def test_too_many(self):
        facts = tuple(("day", (number, 0)) for number in range(45))
        pairs = wish(((("day", ("?a", 0)), ("day", ("?b", 0))), ()))
        self.gives(len(fillings((SCHEMA, facts[:44]), pairs)), 44 * 44)
        self.raises("TooMany", {"limit": 2000}, fillings, (SCHEMA, facts), pairs)


class Says(Case):
    items = (("by", ("?n", "?d", 7, "?n")), ("at", ()), ("by", ("?n", "?d", 7, "?n")), ("at", ("?d",)))

    def test_said_and_wanted(self):
        expected = (("by", (0, "mon", 7, 0)), ("at", ()), ("by", (0, "mon", 7, 0)), ("at", ("mon",)))
        self.gives(said(wish(sayings=self.items), ("mon", 0)), expected)
        self.gives(wanted(wish(wants=self.items), ("mon", 0)), expected)
        self.gives(said(wish(wants=self.items), ("mon", 0)), ())
        self.gives(wanted(wish(sayings=self.items), ("mon", 0)), ())

    def test_items_that_become_alike(self):
        value = wish(sayings=(("by", ("?d",)), ("by", ("?n",)), ("by", (3,))))
        self.gives(said(value, (3, 3)), (("by", (3,)),) * 3)

    def test_filling_of_no_store(self):
        self.gives(said(wish(sayings=(("by", ("?d", "?n")),)), (-1, "z")), (("by", (-1, "z")),))

    def test_without_variables(self):
        value = wish(((("seat", (1, 1)),), ()), (("by", (3,)),), (("at", ()),), (("in", "day", (1, 1)),))
        self.gives((said(value, ()), wanted(value, ()), writes_of(value, ())),
                   ((("by", (3,)),), (("at", ()),), ((), (("day", (1, 1)),))))


class Writes(Case):
    def test_ascending_each_once(self):
        value = wish(writes=(
            ("in", "seat", ("?n", "b")), ("in", "day", ("?d", 20)), ("in", "day", ("?d", 3)), ("out", "seat", (1, "?d")),
            ("in", "day", ("?d", "?n")), ("out", "all", (1, 1)),
        ))
        self.gives(writes_of(value, ("mon", 3)), (
            (("all", (1, 1)), ("seat", (1, "mon"))),
            (("day", ("mon", 3)), ("day", ("mon", 20)), ("seat", (3, "b"))),
        ))

    def test_fact_in_both(self):
        value = wish(writes=(("out", "day", ("?d", "?n")), ("in", "day", ("?d", 1))))
        self.gives(writes_of(value, ("mon", 1)), ((("day", ("mon", 1)),), (("day", ("mon", 1)),)))

    def test_no_writes(self):
        self.gives(writes_of(wish(), ("mon", 1)), ((), ()))


class OwnClash(Case):
    def clash(self, filling, *writes):
        return own_clash(SCHEMA, wish(writes=writes), filling)

    def test_none(self):
        self.gives(self.clash(("mon", 1)), None)
        self.gives(self.clash(("mon", 1), ("in", "day", ("?d", 1)), ("in", "day", ("?d", 2))), None)
        self.gives(self.clash(("mon", 1), ("in", "all", ("?d", 1)), ("in", "all", ("?d", 2)), ("in", "all", (2, 1))), None)
        self.gives(self.clash(("mon", 1), ("out", "seat", ("?d", 1)), ("in", "seat", ("?d", 2))), None)
        self.gives(self.clash(("mon", 1), ("out", "seat", ("?d", 1)), ("out", "seat", ("?d", 2))), None)
        self.gives(self.clash(("mon", 1), ("in", "way", (1, 2, 3)), ("in", "way", (1, 2, 4)), ("in", "way", (2, 2, 3))), None)
        self.gives(self.clash(("mon", 1), ("in", "seat", ("?n", "a")), ("in", "seat", (1, "a"))), None)

    def test_out_and_in(self):
        writes = (
            ("out", "seat", (2, 2)), ("in", "seat", (2, 2)), ("in", "day", ("?d", 3)), ("out", "day", ("?d", "?n")),
            ("in", "all", (1, 1)), ("in", "seat", (2, 1)),
        )
        self.gives(self.clash(("mon", 3), *writes), ("day", ("mon", 3)))
        self.gives(self.clash(("mon", 4), *writes), ("seat", (2, 2)))

    def test_two_ins(self):
        writes = (("in", "seat", (1, "b")), ("in", "seat", (1, "a")), ("in", "seat", ("?n", 9)), ("in", "way", (1, 2, 3)),
                  ("in", "way", (1, "?n", 3)))
        self.gives(self.clash(("mon", 1), *writes), (("seat", (1, 9)), ("seat", (1, "a"))))
        self.gives(self.clash(("mon", 2), *writes), (("seat", (1, "a")), ("seat", (1, "b"))))
        self.gives(self.clash(("mon", 5), *writes[2:]), (("way", (1, 2, 3)), ("way", (1, 5, 3))))
        self.gives(self.clash(("mon", 2), *writes[2:]), None)

    def test_further_is_not_the_next(self):
        writes = (("in", "way", (1, 1, 1)), ("in", "way", (1, 1, 2)), ("in", "way", (1, 2, 2)), ("in", "way", (1, 3, 1)))
        self.gives(self.clash(("mon", 2), *writes), (("way", (1, 1, 1)), ("way", (1, 3, 1))))

    def test_keys_of_unlike_relations(self):
        self.gives(self.clash(("mon", 2), ("in", "seat", (1, 2)), ("in", "all", (1, 2)), ("in", "way", (1, 1, 2))), None)


if __name__ == "__main__":
    unittest.main()
