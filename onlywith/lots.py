"""Lots, and when they stand and are groups ([E1] to [E4])."""

from onlywith.bounds import MAX_POOL
from onlywith.errors import TooMany
from onlywith.members import Crowd, places_of
from onlywith.questions import is_answer_on
from onlywith.terms import is_integer, is_tuple
from onlywith.wishes import placed_writes, sorted_facts


def has_form(value):
    """Whether any value is a tuple of pairs of an integer and a tuple, ascending by the integers."""
    if not isinstance(value, tuple):
        return False
    for item in value:
        if not is_tuple(item, 2) or not is_integer(item[0]) or not isinstance(item[1], tuple):
            return False
    return all([one[0] < other[0] for one, other in zip(value, value[1:])])


def member_error(store, pool, lot):
    """The first place in a lot, by its form, of an item that is no member; None if all are."""
    wishes = dict(pool)
    facts = {fact: True for fact in store[1]}
    for place, (number, filling) in enumerate(lot):
        if number not in wishes or not is_answer_on(facts, wishes[number][0], filling):
            return place
    return None


def standing_error(crowd):
    """What keeps all members of a crowd, as one lot, from standing, as lot_error tells it; or None."""
    places = places_of(crowd.everyone)
    for at in places:
        if crowd.owns[at]:
            return ("own", at)
    for at in places:
        if 0 in crowd.wants[at]:
            return ("want", at, crowd.wants[at].index(0))
    for at in places:
        # The first member that clashes does so with a later one, as both clash with each other.
        if crowd.clashes[at]:
            return ("clash", at, places_of(crowd.clashes[at])[0])
    for at in places:
        for write in crowd.ways[at]:
            if not crowd.ways[at][write]:
                return ("key", at, write)
    return None


def lot_error(store, pool, value):
    """What is wrong with any value as a lot that stands on the store; None for one ([E3])."""
    if not has_form(value):
        return "form"
    place = member_error(store, pool, value)
    if place is not None:
        return ("member", place)
    return standing_error(Crowd(store, pool, value)) if value else "empty"


def stands(store, pool, lot):
    """Whether a lot stands on the store ([E3])."""
    return lot_error(store, pool, lot) is None


def lot_change(pool, lot):
    """The outs and the ins of all members of a lot, each ascending, each once ([E3])."""
    wishes = dict(pool)
    writes = [write for number, filling in lot for write in placed_writes(wishes[number], filling)]
    outs = [fact for sign, fact in writes if sign == "out"]
    return (sorted_facts(outs), sorted_facts([fact for sign, fact in writes if sign == "in"]))


def first_part(crowd, family, at):
    """The first smaller lot that stands of the members from family on, with others behind the place at.

    The crowd stands as one lot; lots are in order by their numbers, so by their places.
    """
    if family == crowd.everyone:
        return None
    if crowd.kept(family) == family:
        return family
    for further in range(at + 1, len(crowd.members)):
        part = first_part(crowd, family | (1 << further), further)
        if part is not None:
            return part
    return None


def group_error(store, pool, value):
    """What is wrong with any value as a group on the store; None for a group ([E4])."""
    error = lot_error(store, pool, value)
    if error is not None:
        return error
    if len(value) > MAX_POOL:
        raise TooMany(MAX_POOL)
    crowd = Crowd(store, pool, value)
    part = first_part(crowd, 1, 0)
    return None if part is None else ("part", crowd.listed(part))
