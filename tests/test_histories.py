"""Tests of onlywith.histories: [B7]."""

import random
import unittest

from support import ANY, Case, steady

store_at = steady("histories", "store_at")
grown = steady("histories", "grown")
turns = steady("histories", "turns")
changed = steady("stores", "changed")
change_error = steady("stores", "change_error")
answers = steady("questions", "answers")

SCHEMA = (("n", 1, ()), ("p", 2, (0,)))
START = (SCHEMA, (("n", (1,)), ("n", (2,)), ("p", (1, "a"))))
EMPTY = (SCHEMA, ())
ALL_N = ((("n", ("?x",)),), ())
ALL_P = ((("p", ("?x", "?y")),), ())


def fact(number):
    return ("n", (number,))


def out(*facts):
    return (facts, ())


def put(*facts):
    return ((), facts)


def long_history(many):
    """A history whose changes go on moving single facts, and the stores that are its versions."""
    chance = random.Random(5)
    changes, stores = [], [START]
    while len(changes) < many:
        outs, ins = fact(chance.randrange(30)), ("p", (chance.randrange(9), chance.choice(["a", 3])))
        change = chance.choice([out(outs), put(outs), put(ins), out(ins), ((), ())])
        if change_error(stores[-1], change) is None:
            changes.append(change)
            stores.append(changed(stores[-1], change))
    return (START, tuple(changes)), stores


class StoreAt(Case):
    def test_without_changes(self):
        self.gives(store_at((START, ()), 0), START)
        for version in (1, -1, 2):
            self.raises("NoVersion", {"given": version}, store_at, (START, ()), version)

    def test_versions(self):
        history = (START, (out(fact(1)), put(fact(10), fact("a")), ((fact(2),), (fact(-4), ("p", (0, 0))))))
        facts = [
            START[1],
            (("n", (2,)), ("p", (1, "a"))),
            (("n", (2,)), ("n", (10,)), ("n", ("a",)), ("p", (1, "a"))),
            (("n", (-4,)), ("n", (10,)), ("n", ("a",)), ("p", (0, 0)), ("p", (1, "a"))),
        ]
        for version, expected in enumerate(facts):
            self.gives(store_at(history, version), (SCHEMA, expected))

    def test_no_version(self):
        history = (START, (out(fact(1)), ((), ())))
        for version in ANY:
            if isinstance(version, bool) or not isinstance(version, int) or not 0 <= version <= 2:
                self.raises("NoVersion", {"given": version}, store_at, history, version)
        for version in (-1, 3, True, False, "1", None, (0,), [1], 10 ** 300):
            self.raises("NoVersion", {"given": version}, store_at, history, version)

    def test_changes_that_change_nothing(self):
        history = (START, (((), ()), put(fact(1)), out(fact(7)), ((fact(9),), START[1])))
        self.gives([store_at(history, version) for version in range(5)], [START] * 5)

    def test_leading_back(self):
        history = (START, (out(fact(1)), put(fact(1)), out(*START[1]), put(*START[1])))
        found = [store_at(history, version)[1] for version in range(5)]
        self.gives(found, [START[1], START[1][1:], START[1], (), START[1]])

    def test_long(self):
        history, stores = long_history(1500)
        for version in (0, 1, 2, 700, 1499, 1500):
            self.gives(store_at(history, version), stores[version])
        self.raises("NoVersion", {"given": 1501}, store_at, history, 1501)


class Grown(Case):
    def test_one_more(self):
        history = (START, ())
        changes = (out(fact(1)), put(("p", (2, 2))), ((("p", (1, "a")),), (("p", (1, "b")),)), ((), ()))
        for place, change in enumerate(changes):
            history = grown(history, change)
            self.gives(history, (START, changes[:place + 1]))

    def test_bad_change_on_the_last_version(self):
        history = (START, (out(("p", (1, "a"))), put(("p", (1, "c")))))
        late, early = (("p", (1, "b")),), (("p", (1, "c")),)
        self.raises("BadChange", {"error": ("key", late[0])}, grown, history, ((), late))
        self.raises("BadChange", {"error": ("key", late[0])}, grown, (START, ()), ((), late))
        self.gives(grown((START, history[1][:1]), ((), late)), (START, history[1][:1] + (((), late),)))
        self.gives(grown(history, ((), early)), (START, history[1] + (((), early),)))

    def test_any_value(self):
        for value in ANY:
            error = change_error(START, value)
            if error is not None:
                self.raises("BadChange", {"error": error}, grown, (START, ()), value)

    def test_many(self):
        full = (SCHEMA, tuple(fact(number) for number in range(400)))
        self.raises("BadChange", {"error": "many"}, grown, (full, ()), put(fact(400)))
        history = (full, (out(fact(0)),))
        self.gives(grown(history, put(fact(400))), (full, history[1] + (put(fact(400)),)))

    def test_long(self):
        history, stores = long_history(1200)
        self.gives(grown(history, ((), ())), (START, history[1] + (((), ()),)))
        self.raises("BadChange", {"error": ("out", 0)}, grown, history, ((None,), ()))


class Turns(Case):
    def test_without_changes(self):
        self.gives(turns((START, ()), ALL_N), ())
        self.gives(turns((EMPTY, ()), ALL_P), ())

    def test_turns(self):
        history = (START, (out(fact(1)), put(("p", (2, 2))), ((), ()), put(fact(1)), put(fact(1)), out(fact(9)), out(fact(1), fact(2))))
        self.gives(turns(history, ALL_N), (1, 4, 7))
        self.gives(turns(history, ALL_P), (2,))
        self.gives(turns(history, ((("n", ("?x",)), ("p", ("?x", "?y"))), ())), (1, 2, 4, 7))
        self.gives(turns(history, ((("n", (1,)),), ())), (1, 4, 7))
        self.gives(turns(history, ((("n", (2,)),), ())), (7,))
        self.gives(turns(history, ((("n", (3,)),), ())), ())
        self.gives(turns(history, (ALL_N[0], (("<", 1, "?x"),))), (7,))

    def test_out_and_in_with_the_same_answers(self):
        change = ((("p", (1, "a")),), (("p", (1, "b")),))
        question = ((("p", ("?x", "?y")), ("n", ("?x",))), (("<", "?y", "?x"),))
        self.gives(turns((START, (change,)), ALL_P), (1,))
        self.gives(turns((START, (change,)), question), ())
        self.gives(turns((START, (change,)), ((("p", (1, "?y")),), (("<", "?y", "aa"),))), (1,))

    def test_leading_back(self):
        history = (START, (out(fact(1)), put(fact(1)), out(fact(1)), put(fact(1))))
        self.gives(turns(history, ALL_N), (1, 2, 3, 4))

    def test_join_on_long_history(self):
        history, stores = long_history(1100)
        for question in (ALL_N, ALL_P, ((("n", ("?x",)), ("p", ("?x", "?y"))), (("!=", "?y", 3),)), ((("p", ("?x", 3)),), ())):
            found = [answers(store, question) for store in stores]
            expected = tuple(number for number in range(1, len(found)) if found[number] != found[number - 1])
            self.gives(turns(history, question), expected)
            self.gives(20 < len(expected) < 1100, True)

    def test_too_many(self):
        pairs = ((("n", ("?x",)), ("n", ("?y",))), ())
        big = (SCHEMA, tuple(fact(number) for number in range(45)))
        self.raises("TooMany", {"limit": 2000}, turns, (big, ()), pairs)
        self.raises("TooMany", {"limit": 2000}, turns, (big, (out(*big[1]),)), pairs)
        self.raises("TooMany", {"limit": 2000}, turns, (EMPTY, (put(*big[1]), out(*big[1]))), pairs)
        self.raises("TooMany", {"limit": 2000}, turns, (EMPTY, (put(*big[1][:44]), put(fact(44)))), pairs)
        self.gives(turns((EMPTY, (put(*big[1][:44]), out(fact(9)), put(fact(44)))), pairs), (1, 2, 3))


if __name__ == "__main__":
    unittest.main()
