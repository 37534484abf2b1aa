"""Papers of a no: that there is no group, told so that anybody can go through it ([E6] to [E8]).

The members left and the settled ones are families of a crowd (see members).
"""

from onlywith.errors import HasGroup
from onlywith.groups import first_family, pool_crowd
from onlywith.members import places_of
from onlywith.strikes import is_reason, line_place
from onlywith.terms import is_integer, is_tuple


def lists_of(crowd):
    """The lists of a paper: all fillings of each wish of the pool."""
    return tuple([
        (number, tuple([filling for _, filling in crowd.listed(family)]))
        for number, family in crowd.numbered.items()
    ])


def reason_for(crowd, left, settled, at):
    """A reason of a paper that is true of the member at a place; None if there is none."""
    against = crowd.clashes[at] & settled
    if against:
        return ("clash", crowd.members[places_of(against)[0]][0])
    return crowd.reason(left, at)


def lines_of(crowd, left, settled):
    """The lines of a node up to its end, and the members left behind them."""
    lines, ahead = [], -1
    while left != ahead:
        ahead = left
        # A settled one that is struck ends the node, so these come first.
        for at in places_of(left & settled) + places_of(left & ~settled):
            reason = reason_for(crowd, left, settled, at)
            if reason is not None:
                lines.append(crowd.members[at] + (reason,))
                left ^= 1 << at
                if settled & (1 << at):
                    return (tuple(lines), left)
    return (tuple(lines), left)


def branching_number(crowd, left, settled):
    """The number by which to branch: one that the settled members need, with few members left."""
    needs = [need & left for at in places_of(settled) for need in crowd.needs[at] if not need & settled]
    helpers = min(needs, key=lambda need: len(places_of(need)), default=left)
    families = [crowd.same[at] & left for at in places_of(helpers)]
    least = min(families, key=lambda family: len(places_of(family)))
    return crowd.members[places_of(least)[0]][0]


def node_of(crowd, left, settled):
    """A node of a paper, where there is no group of members left with all settled ones."""
    lines, left = lines_of(crowd, left, settled)
    if not left or settled & ~left:
        return (lines, None)
    number = branching_number(crowd, left, settled)
    family = crowd.numbered[number] & left
    branches = [
        (crowd.members[at][1], node_of(crowd, (left & ~family) | (1 << at), settled | (1 << at)))
        for at in places_of(family)
    ]
    return (lines, (number, tuple(branches), node_of(crowd, left & ~family, settled)))


def no_paper(store, pool):
    """A paper of a no for the pool on a store ([E8])."""
    crowd = pool_crowd(store, pool)
    group = first_family(crowd)
    if group:
        raise HasGroup(crowd.listed(group))
    return (lists_of(crowd), node_of(crowd, crowd.everyone, 0))


def is_same(value, told):
    """Whether any value is what is told, made of tuples, strings and integers; a bool is no integer."""
    if isinstance(told, tuple):
        return is_tuple(value, len(told)) and all([is_same(one, other) for one, other in zip(value, told)])
    return value == told and not isinstance(value, bool)


class Way:
    """How far one has come along a paper: what is left and what is settled there ([E7]).

    A number that is left out has no member left any more, and nothing else is asked of it.
    """

    def __init__(self, crowd, left, settled):
        self.crowd = crowd
        self.left = left
        # {number: place of its settled member}
        self.settled = settled
        # Whether a settled member was struck.
        self.broken = False

    def is_true(self, at, reason):
        """Whether any value is a reason that is true of the member at a place."""
        if not is_tuple(reason, 2) or reason[0] != "clash":
            return is_reason(self.crowd, self.left, at, reason)
        other = reason[1]
        if not is_integer(other) or other not in self.settled:
            return False
        return self.crowd.clashes[at] & (1 << self.settled[other]) != 0

    def strikes(self, line):
        """Whether any value is a line that strikes a member; then this is done."""
        at = line_place(self.crowd, self.left, line)
        if at is None or not self.is_true(at, line[2]):
            return False
        self.left ^= 1 << at
        self.broken = self.broken or self.settled.get(line[0]) == at
        return True

    def holds(self, value):
        """Whether any value is a node from here on."""
        if not is_tuple(value, 2) or not isinstance(value[0], tuple):
            return False
        lines, end = value
        for line in lines:
            if not self.strikes(line):
                return False
        if end is None:
            return self.broken or not self.left
        return is_tuple(end, 3) and is_integer(end[0]) and self.ends(*end)

    def ends(self, number, branches, without):
        """Whether a number and any values are an end of a node that goes on."""
        family = self.crowd.numbered.get(number, 0) & self.left
        places = places_of(family)
        if not family or number in self.settled or not is_tuple(branches, len(places)):
            return False
        for at, branch in zip(places, branches):
            if not is_tuple(branch, 2) or not is_same(branch[0], self.crowd.members[at][1]):
                return False
            if not self.further((self.left & ~family) | (1 << at), {**self.settled, number: at}).holds(branch[1]):
                return False
        return self.further(self.left & ~family, self.settled).holds(without)

    def further(self, left, settled):
        """A way that goes on from here with others left and settled."""
        way = Way(self.crowd, left, settled)
        way.broken = self.broken
        return way


def no_holds(store, pool, value):
    """Whether any value is a paper of a no for the pool on a store ([E8])."""
    crowd = pool_crowd(store, pool)
    if not is_tuple(value, 2) or not is_same(value[0], lists_of(crowd)):
        return False
    return Way(crowd, crowd.everyone, {}).holds(value[1])
