"""Kept papers: what becomes of the paper of a no when facts or wishes change ([I1] to [I5])."""

from onlywith.histories import is_asked
from onlywith.papers import no_paper
from onlywith.stores import changed, rival
from onlywith.wishes import placed_writes


def touched(schema, pool, change):
    """The numbers of the wishes of a pool that a fact of a change touches, ascending ([I2]).

    The schema is not asked: a fact has the width of its relation.
    """
    outs, ins = change
    return tuple([number for number, wish in pool if any([is_asked(wish[0], fact) for fact in outs + ins])])


def lines_in(node):
    """All lines of a node of a paper, and of the nodes within it."""
    lines, end = node
    found = list(lines)
    if end is not None:
        _, branches, without = end
        for _, branch in branches:
            found.extend(lines_in(branch))
        found.extend(lines_in(without))
    return found


def rivals_of(store, pool, paper):
    """The facts of a store that keep members from being done, as the lines of a paper tell them."""
    wishes = dict(pool)
    # The same line may stand in many nodes.
    keyed = {line: True for line in lines_in(paper[1]) if line[2][0] == "key"}
    return [rival(store, placed_writes(wishes[number], filling)[reason[1]][1]) for number, filling, reason in keyed]


def untouched(store, pool, paper, change):
    """Whether a change neither touches a wish nor takes out what a line of the paper rests on ([I3])."""
    if touched(store[0], pool, change):
        return False
    outs = {fact: True for fact in change[0]}
    return not any([fact in outs for fact in rivals_of(store, pool, paper)])


def node_without(node, number):
    """What becomes of a node of a paper if the wish of a number goes."""
    lines, end = node
    lines = tuple([line for line in lines if line[0] != number])
    if end is None:
        return (lines, None)
    by, branches, without = end
    without = node_without(without, number)
    if by == number:
        return (lines + without[0], without[1])
    return (lines, (by, tuple([(filling, node_without(branch, number)) for filling, branch in branches]), without))


def without_wish(paper, number):
    """What becomes of a paper if the wish of a number goes ([I4])."""
    lists, node = paper
    return (tuple([pair for pair in lists if pair[0] != number]), node_without(node, number))


def with_change(store, pool, paper, change):
    """A paper for the store behind a change and the pool, where there is no group ([I5])."""
    if untouched(store, pool, paper, change):
        return paper
    return no_paper(changed(store, change), pool)
