"""Joins: which rows of several tables go together, and hold some tests.

A table is a pair (heads, rows). The heads name its columns: each is a variable, or, in a table of
one row that only stands there for the tests, a value. The rows hold ranks ([A8]), which are
compared as values are. A test is a triple (sign, one, other) of a sign and two heads.

A state tells what is left: it is a pair (rows, ranks) of a list of the rows of each table, and a
dict {head: {rank: True}} of the ranks that may stand at each head. What is below tells a table by
its place in the list of tables.
"""

from onlywith.terms import is_free, value_rank
from onlywith.unifying import unified


def holds(sign, one, other):
    """Whether a test holds between two ranks."""
    if sign == "=":
        return one == other
    if sign == "!=":
        return one != other
    return one < other


def value_tables(tests):
    """A table of one row for each value of the tests, so that tests stand between heads alone."""
    terms = [term for _, one, other in tests for term in (one, other)]
    return [((term,), [(value_rank(term),)]) for term in terms if not is_free(term)]


def tested(table, tests):
    """The rows of a table that hold the tests between two of its own heads."""
    heads, rows = table
    for sign, one, other in tests:
        if one in heads and other in heads:
            first, second = heads.index(one), heads.index(other)
            rows = [row for row in rows if holds(sign, row[first], row[second])]
    return rows


def cut(ranks, test):
    """Takes away ranks of the heads of a test with which it cannot hold; returns the heads that lost some."""
    sign, one, other = test
    firsts, seconds = ranks[one], ranks[other]
    if not firsts or not seconds:
        return []
    if sign == "<":
        least, greatest = min(firsts), max(seconds)
        ranks[one] = {rank: True for rank in firsts if rank < greatest}
        ranks[other] = {rank: True for rank in ranks[other] if least < rank}
    elif sign == "=":
        ranks[one] = {rank: True for rank in firsts if rank in seconds}
        ranks[other] = {rank: True for rank in seconds if rank in firsts}
    else:
        if len(seconds) == 1:
            ranks[one] = {rank: True for rank in firsts if rank not in seconds}
        if len(firsts) == 1:
            ranks[other] = {rank: True for rank in seconds if rank not in firsts}
    return [head for head, before in ((one, firsts), (other, seconds)) if len(ranks[head]) < len(before)]


class Join:
    """Tables, and the tests between their heads."""

    def __init__(self, tables, tests):
        self.tables = tables + value_tables(tests)
        self.tests = tests
        # {head: [(place of a table, column)]}: where a head stands.
        self.spots = {}
        # {head: [test]}: the tests that ask something of a head.
        self.asks = {}
        for place, (heads, _) in enumerate(self.tables):
            for column, head in enumerate(heads):
                self.spots.setdefault(head, []).append((place, column))
                self.asks.setdefault(head, [])
        for test in tests:
            self.asks[test[1]].append(test)
            self.asks[test[2]].append(test)

    def begin(self):
        """The state with all that may be; None if nothing goes together."""
        rows = [tested(table, self.tests) for table in self.tables]
        if not all(rows):
            return None
        ranks = {}
        for head in self.spots:
            place, column = self.spots[head][0]
            ranks[head] = {row[column]: True for row in rows[place]}
        return (rows, ranks) if self.spread(rows, ranks, {head: True for head in self.spots}) else None

    def spread(self, rows, ranks, waiting):
        """Takes away what does not go with the ranks of the heads that wait, {head: True}, and so on.

        Returns whether something is left everywhere. It goes by one head at a time, so what is left
        need not go together; but where each table has one row left it does.
        """
        while waiting:
            # Each round goes the other way round, so that there are few of them for long chains.
            coming, waiting = list(waiting)[::-1], {}
            for head in coming:
                for other in self.lost(rows, ranks, head):
                    waiting[other] = True
                if not ranks[head]:
                    return False
        return True

    def lost(self, rows, ranks, head):
        """Takes away what does not go with the ranks of one head; returns the heads that lost some."""
        heads = [other for test in self.asks[head] for other in cut(ranks, test)]
        for place, column in self.spots[head]:
            here = ranks[head]
            fewer = [row for row in rows[place] if row[column] in here]
            if len(fewer) < len(rows[place]):
                rows[place] = fewer
                heads.extend(self.thinned(place, fewer, ranks))
        return heads

    def thinned(self, place, rows, ranks):
        """Takes away the ranks that stand in no row of a table; returns the heads that lost some."""
        lost = []
        for column, head in enumerate(self.tables[place][0]):
            there = {row[column]: True for row in rows}
            left = {rank: True for rank in ranks[head] if rank in there}
            if len(left) < len(ranks[head]):
                ranks[head] = left
                lost.append(head)
        return lost

    def fixed(self, state, row):
        """The state in which heads have the ranks of row, a dict {head: rank}; None if nothing goes with it."""
        rows, ranks = list(state[0]), {head: state[1][head] for head in state[1]}
        waiting = {}
        for head in row:
            if len(ranks[head]) > 1:
                ranks[head] = {row[head]: True}
                waiting[head] = True
        return (rows, ranks) if self.spread(rows, ranks, waiting) else None

    def parts(self):
        """The places of the tables in lists such that neither a head nor a test links two of the lists.

        Tables without variables are in none: they ask nothing any more of a state behind the begin.
        """
        places = [place for place, (heads, _) in enumerate(self.tables) if heads and is_free(heads[0])]
        links = [(self.tables[place][0][0], head) for place in places for head in self.tables[place][0]]
        # A value has one rank alone, so a test with it links nothing.
        links = links + [(one, other) for _, one, other in self.tests if is_free(one) and is_free(other)]
        leaders = dict(unified(tuple(links)))
        parts = {}
        for place in places:
            parts.setdefault(leaders[self.tables[place][0][0]], []).append(place)
        return list(parts.values())

    def steps(self, state, places):
        """The steps (state, {head: rank}) that go on with one row of a table; () if each has one row left.

        It is the table with the fewest rows, as it tells soonest that nothing goes together. The last
        step is the one with the first row.
        """
        rows = state[0]
        wide = [place for place in places if len(rows[place]) > 1]
        if not wide:
            return ()
        place = min(wide, key=lambda at: len(rows[at]))
        return [(state, dict(zip(self.tables[place][0], row))) for row in rows[place][::-1]]

    def known(self, state, places):
        """The rank of each head of some tables that have one row left."""
        rows = state[0]
        return {head: rank for place in places for head, rank in zip(self.tables[place][0], rows[place][0])}

    def knowns(self, state, places, limit):
        """The ways to take a row of each of a part's tables, as dicts {head: rank}; at most limit of them."""
        waiting = list(self.steps(state, places))
        found = [] if waiting else [self.known(state, places)]
        while waiting and len(found) < limit:
            ahead, row = waiting.pop()
            after = self.fixed(ahead, row)
            if after is not None:
                further = self.steps(after, places)
                waiting.extend(further)
                if not further:
                    found.append(self.known(after, places))
        return found

    def least(self, state, places, heads):
        """The way whose ranks at the heads, compared in this order, are least; None if there is no way."""
        found = self.knowns(state, places, 1)
        for head in heads if found else []:
            for rank in sorted(state[1][head]):
                after = self.fixed(state, {head: rank})
                nearer = found if rank == found[0][head] or after is None else self.knowns(after, places, 1)
                if after is not None and nearer:
                    found, state = nearer, after
                    break
        return found[0] if found else None


def crossed(choices, limit):
    """The dicts that come of taking a dict out of each list of choices; at most limit of them."""
    found = [{}]
    for knowns in choices:
        enough = limit // len(knowns) + 1
        found = [{**one, **other} for one in found[:enough] for other in knowns]
    return found[:limit]


def joined_rows(tables, tests, variables, limit):
    """The rows of ranks for the variables with which the tables go together and the tests hold.

    There are at most limit of them, any ones, each once.
    """
    join = Join(tables, tests)
    state = join.begin()
    if state is None:
        return []
    choices = []
    for places in join.parts():
        knowns = join.knowns(state, places, limit)
        if not knowns:
            return []
        choices.append(knowns)
    return [tuple([known[variable] for variable in variables]) for known in crossed(choices, limit)]


def least_row(tables, tests, variables):
    """The least of the rows of ranks for the variables; None if there is none."""
    join = Join(tables, tests)
    state = join.begin()
    if state is None:
        return None
    ranks = {}
    for places in join.parts():
        here = {head: True for place in places for head in join.tables[place][0]}
        # What is least in each part by itself is least in all, as no two parts have anything in common.
        known = join.least(state, places, [variable for variable in variables if variable in here])
        if known is None:
            return None
        ranks.update(known)
    return tuple([ranks[variable] for variable in variables])
