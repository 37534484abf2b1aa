"""Unifying: the most general way to make terms alike ([A11] to [A13])."""

from onlywith.errors import NoUnifier
from onlywith.terms import is_free, variables_of


def marked(pattern, number):
    """The pattern with each variable marked with the number ([A11])."""
    return tuple([f"{term}.{number}" if is_free(term) else term for term in pattern])


def leader_of(leaders, term):
    """The term that leads those which term is alike to, by {term: a term nearer to its leader}."""
    leader = term
    while leader in leaders:
        leader = leaders[leader]
    # Each term on the way gets the leader itself, so that long chains are gone through once.
    while term != leader:
        further = leaders[term]
        leaders[term] = leader
        term = further
    return leader


def made_alike(leaders, one, other):
    """Makes two terms alike in leaders; returns whether this could be done.

    A value leads ahead of all variables, the least variable ahead of the others.
    """
    first, second = leader_of(leaders, one), leader_of(leaders, other)
    if first == second:
        return True
    if not is_free(first) and not is_free(second):
        return False
    if is_free(first) and (not is_free(second) or second < first):
        first, second = second, first
    leaders[second] = first
    return True


def unified(equations):
    """The term of each variable of the equations: its value, or its least like ([A12])."""
    leaders = {}
    for place, (one, other) in enumerate(equations):
        if not made_alike(leaders, one, other):
            raise NoUnifier(place)
    variables = variables_of([term for pair in equations for term in pair])
    return tuple([(variable, leader_of(leaders, variable)) for variable in variables])


def fits(pattern, other):
    """Whether some row can be matched by both patterns, each by itself ([A13])."""
    if len(pattern) != len(other):
        return False
    try:
        # A further mark behind one that is there already parts the variables as well.
        unified(tuple(zip(marked(pattern, 0), marked(other, 1))))
    except NoUnifier:
        return False
    return True
