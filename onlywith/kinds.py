"""Kinds: which variables of a wish have one value, and which have which constant ([G2], [G3])."""

from onlywith.bounds import MAX_KINDS
from onlywith.errors import TooMany
from onlywith.questions import question_variables
from onlywith.terms import is_free, value_rank


def terms_of(wish):
    """All terms of the body, the sayings and the wants of a wish."""
    (patterns, tests), sayings, wants, _ = wish
    found = [term for _, pattern in patterns + sayings + wants for term in pattern]
    return found + [term for _, one, other in tests for term in (one, other)]


def constants_of(templates):
    """The values that stand in the bodies, the sayings and the wants of the templates, ascending ([G2])."""
    constants = {term: True for wish in templates for term in terms_of(wish) if not is_free(term)}
    return tuple(sorted(list(constants), key=value_rank))


def variables_at(templates, place):
    """The variables of the template at a place."""
    return question_variables(templates[place][0])


def check_many(variables, constants):
    """Raises TooMany if there are too many tuples with classes in order for so many variables and constants."""
    # [how many tuples have so many classes], from none on
    counts = [1]
    for _ in range(variables):
        old = [count * (constants + classes) for classes, count in enumerate(counts)]
        counts = [same + new for same, new in zip(old + [0], [0] + counts)]
        # Each tuple can be made longer, so there are never less of them for more variables.
        if sum(counts) > MAX_KINDS:
            raise TooMany(MAX_KINDS)


def ordered_tuples(many, constants):
    """All tuples of so many items whose classes are in order, ascending."""
    # Each tuple along with how many classes it has.
    found = [((), 0)]
    for _ in range(many):
        longer = []
        for items, classes in found:
            longer.extend([(items + (value,), classes) for value in constants])
            longer.extend([(items + ((at,),), classes) for at in range(classes)])
            longer.append((items + ((classes,),), classes + 1))
        found = longer
    return [items for items, _ in found]


def tests_hold(tests, items):
    """Whether tests without "<" hold for the items of the variables, {variable: item}."""
    return all([(items.get(one, one) == items.get(other, other)) == (sign == "=") for sign, one, other in tests])


def kinds_of(templates, place):
    """All kinds of the template at a place, ascending ([G2])."""
    variables, constants = variables_at(templates, place), constants_of(templates)
    check_many(len(variables), len(constants))
    tests = templates[place][0][1]
    return tuple([
        kind for kind in ordered_tuples(len(variables), constants) if tests_hold(tests, dict(zip(variables, kind)))
    ])


def kind_in(constants, row):
    """The values of a row as items, by the constants: all others are classes in order."""
    fixed = {value: True for value in constants}
    classes = {}
    for value in row:
        if value not in fixed:
            classes.setdefault(value, (len(classes),))
    return tuple([classes.get(value, value) for value in row])


def kind_of(templates, place, filling):
    """The kind of a filling of the template at a place ([G2])."""
    return kind_in(constants_of(templates), filling)


def shape_in(items, pattern):
    """The shape of a pattern, with the items of its variables, {variable: item}."""
    told = [items.get(term, term) for term in pattern]
    classes = {}
    for item in told:
        if isinstance(item, tuple):
            classes.setdefault(item, (len(classes),))
    return tuple([classes.get(item, item) for item in told])


def shape(templates, place, kind, pattern):
    """The pattern with the items of a kind for its variables, its classes numbered anew ([G3])."""
    return shape_in(dict(zip(variables_at(templates, place), kind)), pattern)
