"""Joins: which rows of several tables go together, and hold some tests.

A table is a pair (heads, rows). The heads name its columns: each is a variable, or, in a table of
one row that only stands there for the tests, a value. The rows hold ranks ([A8]), which are
compared as values are. A test is a triple (sign, one, other) of a sign and two heads.
"""

from onlywith.terms import is_free, value_rank
from onlywith.unifying import unified

# How a test is told when its two terms change sides.
TURNED = {"=": "=", "!=": "!=", "<": ">"}


def holds(sign, one, other):
    """Whether a test holds between two ranks."""
    if sign == "=":
        return one == other
    if sign == "!=":
        return one != other
    return one < other


def picked(rows, column, sign, rank):
    """The rows for which the sign holds between the rank and what stands in the column."""
    if sign == "=":
        return [row for row in rows if row[column] == rank]
    if sign == "!=":
        return [row for row in rows if row[column] != rank]
    if sign == "<":
        return [row for row in rows if rank < row[column]]
    return [row for row in rows if row[column] < rank]


def value_tables(tests):
    """A table of one row for each value of the tests, so that tests stand between heads alone."""
    terms = [term for _, one, other in tests for term in (one, other)]
    return [((term,), [(value_rank(term),)]) for term in terms if not is_free(term)]


def tested(table, tests):
    """The table with the rows alone that hold the tests between two of its own heads."""
    heads, rows = table
    for sign, one, other in tests:
        if one in heads and other in heads:
            first, second = heads.index(one), heads.index(other)
            rows = [row for row in rows if holds(sign, row[first], row[second])]
    return (heads, rows)


def thinned(table, ranks):
    """The table with the rows alone whose ranks can stand at its heads.

    ranks is a dict {head: {rank: True}}; it gets fewer ranks for the heads of this table.
    """
    heads, rows = table
    for column, head in enumerate(heads):
        if head in ranks:
            here = ranks[head]
            rows = [row for row in rows if row[column] in here]
    for column, head in enumerate(heads):
        ranks[head] = {row[column]: True for row in rows}
    return (heads, rows)


def cut(ranks, test):
    """Takes away ranks of the heads of a test with which it cannot hold."""
    sign, one, other = test
    firsts, seconds = ranks[one], ranks[other]
    if not firsts or not seconds:
        return
    if sign == "<":
        least, greatest = min(firsts), max(seconds)
        ranks[one] = {rank: True for rank in firsts if rank < greatest}
        ranks[other] = {rank: True for rank in seconds if least < rank}
    elif sign == "=":
        ranks[one] = {rank: True for rank in firsts if rank in seconds}
        ranks[other] = {rank: True for rank in seconds if rank in firsts}
    else:
        if len(seconds) == 1:
            ranks[one] = {rank: True for rank in firsts if rank not in seconds}
        if len(firsts) == 1:
            ranks[other] = {rank: True for rank in seconds if rank not in firsts}


def row_count(tables):
    """How many rows the tables have in all."""
    return sum([len(rows) for _, rows in tables])


def narrowed(tables, tests):
    """The tables without rows of which one head alone tells that nothing goes with them."""
    ranks = {}
    tables = [thinned(tested(table, tests), ranks) for table in tables]
    many = -1
    while many != row_count(tables):
        many = row_count(tables)
        # Each round goes the other way round, so that there are few of them for long chains.
        tables, tests = tables[::-1], tests[::-1]
        for test in tests:
            cut(ranks, test)
        tables = [thinned(table, ranks) for table in tables]
    return tables


def parted(tables, tests):
    """The tables in lists such that neither a head nor a test links two of the lists."""
    links = [(heads[0], head) for heads, _ in tables for head in heads]
    links = links + [(one, other) for _, one, other in tests]
    leaders = dict(unified(tuple(links)))
    parts = {}
    for table in tables:
        parts.setdefault(leaders[table[0][0]], []).append(table)
    return list(parts.values())


def next_steps(rows, unsettled):
    """The steps (rows, number, row, further numbers) that settle one of the unsettled tables.

    It is the table with the fewest rows, as it tells soonest that nothing goes together.
    """
    number = min(unsettled, key=lambda at: len(rows[at]))
    further = [at for at in unsettled if at != number]
    return [(rows, number, row, further) for row in rows[number]]


class Part:
    """Tables that are linked with one another, and the tests between them."""

    def __init__(self, tables, tests):
        self.tables = tables
        # {head: [(number of a table, column)]}: where a head stands.
        self.spots = {}
        # {head: [(sign, other head)]}: what is asked of a head; the sign is told from it on.
        self.asks = {}
        for number, (heads, _) in enumerate(tables):
            for column, head in enumerate(heads):
                self.spots.setdefault(head, []).append((number, column))
                self.asks.setdefault(head, [("=", head)])
        for sign, one, other in tests:
            if one in self.spots:
                self.asks[one].append((sign, other))
                self.asks[other].append((TURNED[sign], one))

    def settled(self, rows, number, row):
        """The rows of all tables that go with this row of one of them; None if some table has none."""
        fewer = list(rows)
        fewer[number] = [row]
        for head, rank in zip(self.tables[number][0], row):
            for sign, other in self.asks[head]:
                for further, column in self.spots[other]:
                    fewer[further] = picked(fewer[further], column, sign, rank)
                    if not fewer[further]:
                        return None
        return fewer

    def known(self, rows):
        """The rank of each head where each table has one row left."""
        ranks = {}
        for (heads, _), left in zip(self.tables, rows):
            for head, rank in zip(heads, left[0]):
                ranks[head] = rank
        return ranks

    def knowns(self, limit):
        """The ways to take a row of each table, as dicts {head: rank}; at most limit of them."""
        found = []
        waiting = next_steps([rows for _, rows in self.tables], list(range(len(self.tables))))
        while waiting and len(found) < limit:
            rows, number, row, unsettled = waiting.pop()
            fewer = self.settled(rows, number, row)
            if fewer is not None and unsettled:
                waiting.extend(next_steps(fewer, unsettled))
            elif fewer is not None:
                found.append(self.known(fewer))
        return found


def crossed(choices, limit):
    """The dicts that come of taking a dict out of each list of choices; at most limit of them."""
    found = [{}]
    for knowns in choices:
        enough = limit // len(knowns) + 1
        found = [{**one, **other} for one in found[:enough] for other in knowns]
    return found[:limit]


def joined_rows(tables, tests, variables, limit):
    """The rows of ranks for the variables with which the tables go together and the tests hold.

    There are at most limit of them, any ones, each once.
    """
    tables = narrowed(tables + value_tables(tests), tests)
    if not all([rows for _, rows in tables]):
        return []
    # A test with a value holds for all ranks that are left, as the value has one rank alone.
    tests = [test for test in tests if is_free(test[1]) and is_free(test[2])]
    tables = [table for table in tables if table[0] and is_free(table[0][0])]
    choices = []
    for part in parted(tables, tests):
        knowns = Part(part, tests).knowns(limit)
        if not knowns:
            return []
        choices.append(knowns)
    return [tuple([known[variable] for variable in variables]) for known in crossed(choices, limit)]
