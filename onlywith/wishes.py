"""Wishes: what they ask, say, want and write ([C1] to [C3])."""

from onlywith.bounds import MAX_SAYINGS, MAX_WANTS, MAX_WIDTH, MAX_WRITES
from onlywith.questions import answers, question_error, question_variables
from onlywith.stores import fact_rank, key_of, widths_of
from onlywith.terms import filled, is_term_of, is_tuple, is_word


def has_form(value):
    """Whether any value is a quadruple whose last three items are tuples that are short enough."""
    if not is_tuple(value, 4):
        return False
    limits = (MAX_SAYINGS, MAX_WANTS, MAX_WRITES)
    return all([isinstance(items, tuple) and len(items) <= most for items, most in zip(value[1:], limits)])


def is_pattern_of(value, variables):
    """Whether any value is a tuple of values and of some variables."""
    return isinstance(value, tuple) and all([is_term_of(term, variables) for term in value])


def is_saying(value, variables):
    """Whether any value is a saying, or a want, of a wish with these variables."""
    if not is_tuple(value, 2):
        return False
    word, pattern = value
    return is_word(word) and is_pattern_of(pattern, variables) and len(pattern) <= MAX_WIDTH


def is_write(widths, value, variables):
    """Whether any value is a write, by the widths of the relations, of a wish with these variables."""
    if not is_tuple(value, 3):
        return False
    sign, name, pattern = value
    if sign not in ("in", "out") or not isinstance(name, str) or name not in widths:
        return False
    return is_pattern_of(pattern, variables) and len(pattern) == widths[name]


def body_error(schema, value):
    """What is wrong with any value as the body of a wish; None for a body."""
    error = question_error(schema, value)
    if error is None and any(["." in variable for variable in question_variables(value)]):
        return "marked"
    return error


def wish_error(schema, value):
    """What is wrong with any value as a wish of the schema; None for a wish ([C2])."""
    if not has_form(value):
        return "form"
    body, sayings, wants, writes = value
    error = body_error(schema, body)
    if error is not None:
        return ("body", error)
    variables = question_variables(body)
    widths = widths_of(schema)
    checked = (
        ("saying", [is_saying(item, variables) for item in sayings]),
        ("want", [is_saying(item, variables) for item in wants]),
        ("write", [is_write(widths, item, variables) for item in writes]),
    )
    for word, rights in checked:
        if False in rights:
            return (word, rights.index(False))
    return None


def fillings(store, wish):
    """The fillings of a wish on a store, ascending ([C2])."""
    return answers(store, wish[0])


def known_of(wish, filling):
    """The known that gives the variables of a wish the values of a filling."""
    return tuple(zip(question_variables(wish[0]), filling))


def said(wish, filling):
    """What the wish says with the filling, in its order ([C3])."""
    known = known_of(wish, filling)
    return tuple([(word, filled(pattern, known)) for word, pattern in wish[1]])


def wanted(wish, filling):
    """What the wish wants with the filling, in its order ([C3])."""
    known = known_of(wish, filling)
    return tuple([(word, filled(pattern, known)) for word, pattern in wish[2]])


def placed_writes(wish, filling):
    """The pairs (sign, fact) of the writes of the wish with the filling, in its order."""
    known = known_of(wish, filling)
    return [(sign, (name, filled(pattern, known))) for sign, name, pattern in wish[3]]


def sorted_facts(facts):
    """The facts, ascending, each once."""
    return tuple(sorted(list({fact: True for fact in facts}), key=fact_rank))


def writes_of(wish, filling):
    """The outs and the ins of the wish with the filling ([C3])."""
    writes = placed_writes(wish, filling)
    outs = [fact for sign, fact in writes if sign == "out"]
    return (sorted_facts(outs), sorted_facts([fact for sign, fact in writes if sign == "in"]))


def own_clash(schema, wish, filling):
    """How the wish clashes with itself: a fact out and in, or two ins of one key; None if not ([C3])."""
    outs, ins = writes_of(wish, filling)
    both = [fact for fact in ins if fact in outs]
    if both:
        return both[0]
    for place, fact in enumerate(ins):
        key = key_of(schema, fact)
        for further in ins[place + 1:]:
            if key is not None and key_of(schema, further) == key:
                return (fact, further)
    return None
