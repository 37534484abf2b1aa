"""Wishes, dealings and calls of fairs, drawn or made for tests."""

from pools import SCHEMA, drawn_wish
from support import spoilt

DAY = ((("day", ("?d",)),), ())
NOTHING = ((), ())


def wish(says=(), wants=(), writes=(), body=DAY):
    return (body, tuple(says), tuple(wants), tuple(writes))


def day(*numbers):
    return tuple(("day", (number,)) for number in numbers)


def on_day(number, says=(), wants=(), writes=()):
    """A wish for one day alone."""
    return wish(says, wants, writes, ((("day", (number,)),), ()))


def words(*some):
    return [(word, ()) for word in some]


WAITS = wish([], words("never"))
START = (SCHEMA, day(1, 2))


def put(*numbers):
    """A dealing that reads nothing and puts days in, for any version from 0 on."""
    return (0, (), ((), day(*numbers)))


def state(fair):
    return (fair.store, fair.version, fair.pool, fair.tills, fair.events, fair.asked)


def drawn_change(chance, store):
    """The form of a change that takes out and puts in a few facts."""
    facts = sorted({*store[1], *day(0, 1, 2, 3), ("seat", (0, "a")), ("seat", (1, "b")), ("tag", (0, 0))}, key=lambda fact: (fact[0], repr(fact[1])))
    kinds = [chance.choice(("", "", "", "", "out", "in")) for _ in facts]
    change = tuple(tuple(fact for fact, kind in zip(facts, kinds) if kind == side) for side in ("out", "in"))
    return change


def drawn_dealing(chance, fair):
    questions = (DAY, ((("seat", ("?s", "?w")),), ()), ((("tag", (0, "?x")),), ()), ((("day", (3,)),), ()))
    reads = tuple(chance.choice(questions) for _ in range(chance.choice((0, 0, 1, 2))))
    begin = chance.choice((fair.version, fair.version, max(fair.version - 1, 0), chance.randint(-1, fair.version + 1)))
    return (begin, reads, drawn_change(chance, fair.store))


def drawn_call(chance, fair):
    """The name and the values of a call."""
    kind = chance.random()
    waiting = [number for number, _ in fair.pool]
    if kind < 0.5:
        till = chance.choice((None, None, None, fair.version, fair.version + 1, fair.version + 2, fair.version - 1, 10 ** 400 - 1, 1 - 10 ** 400))
        value = drawn_wish(chance, "abc")
        return ("come", spoilt(chance, value) if chance.random() < 0.1 else value) + (() if till is None else (till,))
    if kind < 0.65:
        return ("back", chance.choice(waiting) if waiting and chance.random() < 0.8 else chance.choice((-1, 99, True, None, 10 ** 400 - 1)))
    if kind < 0.95:
        dealing = drawn_dealing(chance, fair)
        return ("plain", spoilt(chance, dealing) if chance.random() < 0.15 else dealing)
    return ("at", chance.choice((0, fair.version, fair.version + 1, -1, False, None)))
