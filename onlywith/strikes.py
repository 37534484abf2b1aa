"""Strikes: members that cannot be in a lot, whatever the others are ([D1] to [D7])."""

from onlywith.bounds import MAX_CANDIDATES, MAX_NUMBER, MAX_TAME
from onlywith.errors import TooMany
from onlywith.members import Crowd, places_of
from onlywith.questions import answers_up_to
from onlywith.terms import is_integer, is_row, is_tuple
from onlywith.wishes import wish_error


def number_error(pairs):
    """The first place of a pair whose number is none, or not above that of the pair ahead; or None."""
    ahead = -1
    for place, (number, _) in enumerate(pairs):
        if not is_integer(number) or not ahead < number <= MAX_NUMBER:
            return place
        ahead = number
    return None


def pool_error(schema, value):
    """What is wrong with any value as a pool of the schema; None for a pool ([D3])."""
    if not isinstance(value, tuple) or not all([is_tuple(item, 2) for item in value]):
        return "form"
    place = number_error(value)
    if place is not None:
        return ("number", place)
    for place, (_, wish) in enumerate(value):
        error = wish_error(schema, wish)
        if error is not None:
            return ("wish", place, error)
    return "many" if len(value) > MAX_TAME else None


def candidates(store, pool):
    """All members of the pool on a store, ascending ([D4])."""
    found = []
    for number, wish in pool:
        # All fillings of a wish may be very many; one too many is enough.
        rows = answers_up_to(store[1], wish[0], MAX_CANDIDATES - len(found))
        if rows is None:
            raise TooMany(MAX_CANDIDATES)
        found.extend([(number, row) for row in rows])
    return tuple(found)


def reason_of(store, pool, left, member):
    """The first reason that is true of a member of left; None if none is ([D5])."""
    crowd = Crowd(store, pool, left)
    return crowd.reason(crowd.everyone, crowd.places[member])


def first_strike(crowd, left):
    """The place of the first member left that can be struck, and its reason; None if there is none."""
    for at in places_of(left):
        reason = crowd.reason(left, at)
        if reason is not None:
            return (at, reason)
    return None


def struck(store, pool):
    """The family left of the pool, and the lines that strike all others, each time the first one ([D6])."""
    crowd = Crowd(store, pool, candidates(store, pool))
    left, lines = crowd.everyone, []
    strike = first_strike(crowd, left)
    while strike is not None:
        at, reason = strike
        lines.append(crowd.members[at] + (reason,))
        left ^= 1 << at
        strike = first_strike(crowd, left)
    return (crowd.listed(left), tuple(lines))


def line_place(crowd, left, line):
    """The place of the member left that any value, as a line, strikes for a reason, whatever this is; or None."""
    if not is_tuple(line, 3):
        return None
    number, filling, _ = line
    if not is_integer(number) or not is_row(filling):
        return None
    at = crowd.places.get((number, filling))
    if at is None or not left & (1 << at):
        return None
    return at


def is_reason(crowd, left, at, value):
    """Whether any value is a reason ([D2]) that is true of the member at a place, with left."""
    if value == ("own",):
        return crowd.owns[at]
    return is_tuple(value, 2) and is_integer(value[1]) and crowd.is_true(left, at, value[0], value[1])


def lines_hold(store, pool, value):
    """Whether any value is lines that strike members one after another ([D7])."""
    crowd = Crowd(store, pool, candidates(store, pool))
    if not isinstance(value, tuple):
        return False
    left = crowd.everyone
    for line in value:
        at = line_place(crowd, left, line)
        if at is None or not is_reason(crowd, left, at, line[2]):
            return False
        left ^= 1 << at
    return True
