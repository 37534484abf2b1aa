"""Pools of twelve wishes with sixty members and the like, in which a search could go astray."""

SCHEMA = (("day", 1, ()), ("seat", 2, (0,)))
DAY = ((("day", ("?d",)),), ())
WORDS = ["w" + sign for sign in "abcdefghijklmnopqrstuvwxyz"]


def days(many):
    return (SCHEMA, tuple(("day", (number,)) for number in range(many)))


def wish(says=(), wants=(), writes=()):
    return (DAY, tuple(says), tuple(wants), tuple(writes))


def pool_of(wishes):
    return tuple(enumerate(wishes))


def ring(many, pattern=("?d",), seat=False):
    """Each wants what the next one says; with seat each also takes the seat of its day."""
    return pool_of([
        wish([(WORDS[at], pattern)], [(WORDS[(at + 1) % many], pattern)],
             [("in", "seat", ("?d", WORDS[at]))] if seat else [])
        for at in range(many)
    ])


def chain(many):
    """Each wants what the next one says; nobody says what the last one wants."""
    return pool_of([wish([(WORDS[at], ())], [(WORDS[at + 1], ())]) for at in range(many)])


def strangers(many):
    """The first and the last one want each other; the others stand, each by itself."""
    ends = {0: many - 1, many - 1: 0}
    return pool_of([wish([(WORDS[at], ())], [(WORDS[ends[at]], ())] if at in ends else []) for at in range(many)])


def shortcut(many):
    """A chain that ends well, but the last one says what the first one wants, too."""
    return pool_of([
        wish([(WORDS[at], ())] + ([(WORDS[1], ())] if at == many - 1 else []), [(WORDS[at + 1], ())] if at < many - 1 else [])
        for at in range(many)
    ])


def needless(many):
    """The first one wants two things; the second one says one of them, the last one both, and needs all between."""
    first, second = wish([], [("a", ()), ("b", ())]), wish([("a", ())])
    last = wish([("a", ()), ("b", ())], [(WORDS[2], ())])
    between = [wish([(WORDS[at], ())], [(WORDS[at + 1], ())] if at < many - 2 else []) for at in range(2, many - 1)]
    return pool_of([first, second] + between + [last])
