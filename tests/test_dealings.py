"""Tests of onlywith.dealings: [H1] to [H4]."""

import itertools
import random
import unittest

from onlywith.errors import WithError
from support import Case, steady

refusal = steady("dealings", "refusal")
closed = steady("dealings", "closed")
store_at = steady("histories", "store_at")
answers = steady("questions", "answers")
change_error = steady("stores", "change_error")
row_rank = steady("terms", "row_rank")

SCHEMA = (("free", 1, ()), ("seat", 2, (0,)))
FREE = ((("free", ("?f",)),), ())
PAIRS = ((("free", ("?f",)), ("free", ("?g",))), ())
SEATS = ((("seat", ("?s", "?w")),), ())
MANY = ("TooMany", {"limit": 2000})
NOTHING = ((), ())


def free(*numbers):
    return tuple(("free", (number,)) for number in numbers)


def seats(**taken):
    return tuple(("seat", (int(name[1:]), who)) for name, who in sorted(taken.items()))


def history_of(facts, *changes):
    return ((SCHEMA, facts), changes)


def refused(history, dealing):
    """What refusal tells of a dealing, by what the document says alone."""
    begin, reads, change = dealing
    last = len(history[1])
    if begin < 0 or begin > last:
        return ("begin",)
    for place, question in enumerate(reads if begin < last else ()):
        then, now = [answers(store_at(history, version), question) for version in (begin, last)]
        parting = sorted([row for row in then + now if (row in then) != (row in now)], key=row_rank)
        if parting:
            return ("read", place, parting[0])
    error = change_error(store_at(history, last), change)
    return None if error is None else ("change", error)


class Refusal(Case):
    def check(self, history, dealing, expected):
        """What refusal tells, and that closed does what goes with it."""
        self.gives(refusal(history, dealing), expected)
        if expected is None:
            self.gives(closed(history, dealing), (history[0], history[1] + (dealing[2],)))
        else:
            self.raises("Refused", {"error": expected}, closed, history, dealing)

    def test_closes(self):
        history = history_of(free(4, 7))
        change = (free(4), seats(s4="bo"))
        for reads in ((), (FREE,), (FREE, SEATS, PAIRS, FREE)):
            self.check(history, (0, reads, change), None)
        self.gives(store_at(closed(history, (0, (FREE,), change)), 1)[1], free(7) + seats(s4="bo"))

    def test_begin(self):
        history = history_of(free(4), (free(4), ()), ((), free(5)))
        for begin in (-1, -2, -3, 3, 4, 10 ** 9, -10 ** 400 + 1, 10 ** 400 - 1):
            self.check(history, (begin, (), NOTHING), ("begin",))
            self.check(history, (begin, (FREE,), NOTHING), ("begin",))
        for begin in range(3):
            self.check(history, (begin, (), NOTHING), None)

    def test_begin_ahead_of_reads_and_change(self):
        crowded = history_of(free(*range(50)), (free(1), ()))
        for begin in (-1, 2):
            self.check(crowded, (begin, (PAIRS,), (free(1), free(1))), ("begin",))

    def test_first_read_that_is_otherwise(self):
        history = history_of(free(4, 7) + seats(s1="cy"), (free(4), seats(s2="di")))
        fixed = ((("free", (7,)),), ())
        self.check(history, (0, (fixed, FREE, SEATS), NOTHING), ("read", 1, (4,)))
        self.check(history, (0, (fixed, SEATS, FREE), NOTHING), ("read", 1, (2, "di")))
        self.check(history, (0, (fixed, fixed, fixed, FREE), NOTHING), ("read", 3, (4,)))
        self.check(history, (0, (fixed,), NOTHING), None)
        self.check(history, (1, (fixed, FREE, SEATS), NOTHING), None)

    def test_least_row(self):
        # Numbers come ahead of words, and a row that goes counts like one that comes.
        cases = (
            ((free(3, 8), free(5)), (3,)), ((free(8), free(5)), (5,)), ((free(8), free("a")), (8,)),
            (((), free("a", "b")), ("a",)), ((free(3, 8), free(-1, "a")), (-1,)),
        )
        for change, row in cases:
            self.check(history_of(free(3, 8), change), (0, (FREE,), NOTHING), ("read", 0, row))

    def test_read_ahead_of_change(self):
        history = history_of(free(4) + seats(s1="cy"), (free(4), ()))
        for change in ((free(1), free(1)), ((), seats(s1="bo"))):
            self.check(history, (0, (FREE,), change), ("read", 0, (4,)))
            self.check(history, (0, (SEATS,), change), ("change", change_error(store_at(history, 1), change)))

    def test_nothing_was_there(self):
        nobody = ((("seat", ("?s", "bo")),), ())
        taken = ((("seat", (4, "bo")),), ())
        history = history_of(free(4), ((), seats(s4="bo")))
        self.check(history, (0, (nobody,), NOTHING), ("read", 0, (4,)))
        self.check(history, (0, (taken,), NOTHING), ("read", 0, ()))
        self.check(history, (1, (nobody, taken), NOTHING), None)
        self.check(history_of(seats(s4="bo"), (seats(s4="bo"), ())), (0, (taken,), NOTHING), ("read", 0, ()))

    def test_errors_of_the_change(self):
        full = tuple(("free", (number,)) for number in range(399)) + seats(s1="cy")
        history = history_of(full, NOTHING)
        cases = (
            ((free(1), free(1)), ("both", ("free", (1,)))), (((), seats(s1="bo")), ("key", ("seat", (1, "bo")))),
            (((), seats(s2="bo") + seats(s2="cy")), ("key", ("seat", (2, "bo")))), (((), free(999)), "many"),
        )
        for change, error in cases:
            for dealing in ((0, (), change), (1, (), change), (1, (PAIRS,), change), (0, (SEATS,), change)):
                self.check(history, dealing, ("change", error))
        self.check(history, (0, (), (free(0), free(999))), None)

    def test_errors_are_of_the_last_store(self):
        history = history_of(seats(s1="cy"), (seats(s1="cy"), ()), ((), seats(s2="di")))
        self.check(history, (0, (), ((), seats(s1="bo"))), None)
        self.check(history, (0, (), ((), seats(s2="bo"))), ("change", ("key", ("seat", (2, "bo")))))

    def test_changed_and_changed_back(self):
        history = history_of(free(4), (free(4), free(5)), (free(5), free(4)))
        self.check(history, (0, (FREE,), NOTHING), None)
        self.check(history, (1, (FREE,), NOTHING), ("read", 0, (4,)))
        self.check(history, (2, (FREE,), NOTHING), None)

    def test_change_that_changes_nothing(self):
        history = history_of(free(4))
        for change in (NOTHING, ((), free(4)), (free(5), ())):
            after = closed(history, (0, (FREE,), change))
            self.gives((len(after[1]), store_at(after, 1)), (1, store_at(history, 0)))
            self.check(after, (0, (FREE,), change), None)

    def test_writes_what_it_did_not_read(self):
        history = history_of(free(4), (free(4), free(5)))
        self.check(history, (0, (SEATS,), (free(5), free(4))), None)

    def test_history_stays(self):
        history = history_of(free(4))
        before = repr(history)
        after = closed(history, (0, (), (free(4), ())))
        self.gives((repr(history), after[0]), (before, history[0]))


class TooMany(Case):
    """Questions with more answers than may be told."""

    def stores(self, *many):
        """A history whose versions have so many free numbers."""
        changes = [(free(*range(new, old)), free(*range(old, new))) for old, new in zip(many, many[1:])]
        return history_of(free(*range(many[0])), *changes)

    def test_one_store_or_both(self):
        for many in ((45, 44), (44, 45), (45, 46), (45, 44, 45)):
            history = self.stores(*many)
            self.raises(*MANY, refusal, history, (0, (PAIRS,), NOTHING))
            self.raises(*MANY, closed, history, (0, (PAIRS,), NOTHING))
        self.gives(refusal(self.stores(44, 43), (0, (PAIRS,), NOTHING)), ("read", 0, (0, 43)))

    def test_same_store(self):
        history = history_of(free(*range(45)), NOTHING)
        self.raises(*MANY, refusal, history, (0, (PAIRS,), NOTHING))
        self.raises(*MANY, refusal, history, (0, (FREE, PAIRS), (free(1), free(1))))

    def test_behind_a_read_that_is_otherwise(self):
        history = self.stores(45, 46)
        self.gives(refusal(history, (0, (FREE, PAIRS), NOTHING)), ("read", 0, (45,)))
        self.raises(*MANY, refusal, history, (0, (PAIRS, FREE), NOTHING))
        self.raises(*MANY, refusal, history, (0, (SEATS, PAIRS), NOTHING))

    def test_at_the_last_version(self):
        history = self.stores(45, 46)
        self.gives(refusal(history, (1, (PAIRS,) * 4, NOTHING)), None)
        self.gives(refusal(history, (1, (PAIRS,), (free(1), free(1)))), ("change", ("both", ("free", (1,)))))
        self.gives(len(closed(history, (1, (PAIRS,), NOTHING))[1]), 2)

    def test_only_the_two_stores_count(self):
        self.gives(refusal(self.stores(44, 60, 44), (0, (PAIRS,), NOTHING)), None)


def drawn_question(chance):
    name, width = chance.choice((("free", 1), ("seat", 2)))
    terms = ("?a", "?b", 1, 2, "x")
    patterns = [(name, tuple(chance.choice(terms) for _ in range(width))) for _ in range(chance.choice((1, 1, 2)))]
    variables = [term for _, pattern in patterns for term in pattern if str(term)[0] == "?"]
    tests = [("<", chance.choice(variables), 2)] if variables and chance.random() < 0.3 else []
    return (tuple(patterns), tuple(tests))


def drawn_change(chance):
    """A change, as to its form, of few facts."""
    facts = free(1, 2, "x") + seats(s1="x") + seats(s1="y") + seats(s2="x")
    kinds = [chance.choice(("", "", "", "out", "in", "in")) for _ in facts]
    return tuple(tuple(fact for fact, kind in zip(facts, kinds) if kind == side) for side in ("out", "in"))


def drawn_dealing(chance, last):
    reads = tuple(drawn_question(chance) for _ in range(chance.choice((0, 1, 1, 2, 4))))
    return (chance.randint(-1, last + 1) if chance.random() < 0.3 else chance.randint(0, last), reads, drawn_change(chance))


class Orders(Case):
    def test_drawn(self):
        chance, found = random.Random(81), {}
        for _ in range(150):
            history = history_of(free(1, "x") + seats(s2="x"))
            for _ in range(8):
                dealing = drawn_dealing(chance, len(history[1]))
                expected = refused(history, dealing)
                self.gives(refusal(history, dealing), expected)
                found[expected and expected[0]] = found.get(expected and expected[0], 0) + 1
                if expected is None:
                    history = closed(history, dealing)
                else:
                    self.raises("Refused", {"error": expected}, closed, history, dealing)
        self.gives(sorted(map(str, found)), ["None", "begin", "change", "read"])
        self.gives(min(found.values()) > 20, True)

    def test_every_order(self):
        """[H4]: the order of the versions is one in which each dealing can be done at once."""
        chance, closings = random.Random(82), 0
        for _ in range(60):
            start = history_of(free(1, "x") + seats(s2="x"))
            dealings = [drawn_dealing(chance, 0) for _ in range(3)]
            for order in itertools.permutations(dealings):
                history, done = start, []
                for dealing in order:
                    try:
                        history = closed(history, dealing)
                        done.append(dealing)
                    except WithError as error:
                        self.gives(error.error, refused(history, dealing))
                again = start
                for dealing in done:
                    # What it read at its begin it reads just ahead of its place, too.
                    place = len(again[1])
                    for question in dealing[1]:
                        self.gives(answers(store_at(again, place), question), answers(store_at(history, dealing[0]), question))
                    again = closed(again, (place,) + dealing[1:])
                self.gives(again, history)
                closings += len(done) > 1
        self.gives(closings > 50, True)

    def test_one_of_two(self):
        """Of two that change what the other one read one closes, whichever comes first."""
        history = history_of(free(1, 2))
        one, other = (0, (FREE,), (free(1), ())), (0, (FREE,), (free(2), ()))
        for first, second, row in ((one, other, (1,)), (other, one, (2,))):
            self.gives(refusal(closed(history, first), second), ("read", 0, row))

    def test_versions_between_do_not_count(self):
        chance = random.Random(83)
        for _ in range(60):
            facts, change = free(1, 2) + seats(s1="y"), drawn_change(chance)
            if change_error((SCHEMA, facts), change) is not None:
                continue
            short = history_of(facts, change)
            long = history_of(facts, (facts, free(9)), (free(9), facts), change)
            dealing = (0,) + drawn_dealing(chance, 0)[1:]
            self.gives(refusal(long, dealing), refusal(short, dealing))


if __name__ == "__main__":
    unittest.main()
