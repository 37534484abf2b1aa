"""Words, values, variables, rows, patterns and knowns ([A3] to [A10])."""

from onlywith.bounds import MAX_NUMBER, MAX_WORD

# The letters of a variable, without its "?" and its mark.
MAX_LETTERS = 3


def is_integer(value):
    """Whether any value is an integer; a bool is none here."""
    return isinstance(value, int) and not isinstance(value, bool)


def is_tuple(value, many):
    """Whether any value is a tuple of so many items."""
    return isinstance(value, tuple) and len(value) == many


def is_lettered(text, most):
    """Whether a string has 1 to most signs, all of them small letters a to z."""
    return len(text) <= most and text.isascii() and text.isalpha() and text.islower()


def is_word(value):
    """Whether any value is a word."""
    return isinstance(value, str) and is_lettered(value, MAX_WORD)


def is_value(value):
    """Whether any value is a value ([A4])."""
    if is_integer(value):
        return -MAX_NUMBER <= value <= MAX_NUMBER
    return is_word(value)


def is_mark(figures):
    """Whether a string is the figures of an integer from 0 to MAX_NUMBER, without noughts ahead."""
    # The length is asked first, as Python refuses to read very many figures.
    if len(figures) > len(str(MAX_NUMBER)) or not (figures.isascii() and figures.isdigit()):
        return False
    number = int(figures)
    return number <= MAX_NUMBER and str(number) == figures


def is_variable(value):
    """Whether any value is a variable, marked or not ([A5])."""
    if not isinstance(value, str) or value[:1] != "?":
        return False
    letters, point, figures = value[1:].partition(".")
    return is_lettered(letters, MAX_LETTERS) and (point == "" or is_mark(figures))


def is_free(term):
    """Whether a term is a variable; unlike is_variable it is asked of terms alone."""
    return isinstance(term, str) and term[:1] == "?"


def is_row(value):
    """Whether any value is a row of values."""
    return isinstance(value, tuple) and all(is_value(item) for item in value)


def is_term_of(value, variables):
    """Whether any value is a value ([A4]) or one of a tuple of variables."""
    return is_value(value) or value in variables


def value_rank(value):
    """What values are compared by: numbers come ahead of words ([A8])."""
    if isinstance(value, str):
        return (1, value)
    return (0, value)


def row_rank(row):
    """What rows are compared by: the ranks of their items, in order ([A8])."""
    return tuple([value_rank(value) for value in row])


def variables_of(pattern):
    """The variables of a pattern, ascending, each once ([A9])."""
    return tuple(sorted({term for term in pattern if is_free(term)}))


def filled(pattern, known):
    """The pattern with the values that known has in the place of its variables ([A9])."""
    values = dict(known)
    return tuple([values.get(term, term) for term in pattern])


def known_row(known, variables):
    """The values that known has for variables, in their order ([A9])."""
    values = dict(known)
    return tuple([values[variable] for variable in variables])


def matched(pattern, row, known):
    """The known, known within it, that fills the pattern up to the row; None if there is none ([A10])."""
    if len(pattern) != len(row):
        return None
    values = dict(known)
    for term, value in zip(pattern, row):
        wanted = values.setdefault(term, value) if is_free(term) else term
        if wanted != value:
            return None
    return tuple(sorted(values.items()))
