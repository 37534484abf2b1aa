"""Questions and their answers ([B5], [B6])."""

from onlywith.bounds import MAX_ANSWERS, MAX_PATTERNS, MAX_TESTS
from onlywith.errors import TooMany
from onlywith.joins import holds, joined_rows, least_row
from onlywith.stores import widths_of
from onlywith.terms import (
    filled, is_row, is_term_of, is_tuple, is_value, is_variable, known_row, matched, row_rank, value_rank,
    variables_of,
)

SIGNS = ("=", "!=", "<")


def is_named_pattern(widths, value):
    """Whether any value is a pair of the name of a relation and a pattern as wide as it."""
    if not is_tuple(value, 2):
        return False
    name, pattern = value
    if not isinstance(name, str) or name not in widths or not is_tuple(pattern, widths[name]):
        return False
    return all([is_value(term) or is_variable(term) for term in pattern])


def is_test(value, variables):
    """Whether any value is a test between values and some variables."""
    if not is_tuple(value, 3):
        return False
    sign, one, other = value
    return sign in SIGNS and is_term_of(one, variables) and is_term_of(other, variables)


def question_error(schema, value):
    """What is wrong with any value as a question of the schema; None for a question ([B5])."""
    if not is_tuple(value, 2):
        return "form"
    patterns, tests = value
    if not isinstance(patterns, tuple) or not 1 <= len(patterns) <= MAX_PATTERNS:
        return "patterns"
    widths = widths_of(schema)
    for place, item in enumerate(patterns):
        if not is_named_pattern(widths, item):
            return ("pattern", place)
    if not isinstance(tests, tuple) or len(tests) > MAX_TESTS:
        return "tests"
    variables = question_variables(value)
    for place, item in enumerate(tests):
        if not is_test(item, variables):
            return ("test", place)
    return None


def question_variables(question):
    """The variables of the patterns of a question, ascending, each once ([B5])."""
    return variables_of([term for _, pattern in question[0] for term in pattern])


def table_of(rows, pattern):
    """The table, as joins have it, of the variables of a pattern on the rows of its relation."""
    variables = variables_of(pattern)
    knowns = [matched(pattern, row, ()) for row in rows]
    return (variables, [row_rank(known_row(known, variables)) for known in knowns if known is not None])


def tables_of(facts, patterns):
    """The tables of the patterns of a question on facts in any order."""
    rows = {}
    for name, row in facts:
        rows.setdefault(name, []).append(row)
    # Patterns that stand there twice ask nothing further.
    return [table_of(rows.get(name, []), pattern) for name, pattern in {item: True for item in patterns}]


def values_of(ranks):
    """The row that has these ranks."""
    return tuple([value for _, value in ranks])


def least_answer(facts, question, variables):
    """The values that the least answer has for variables, compared in their order; None without answers.

    Unlike answers it does not go through all of them.
    """
    ranks = least_row(tables_of(facts, question[0]), question[1], variables)
    return None if ranks is None else values_of(ranks)


def answers_up_to(facts, question, most):
    """answers, on facts in any order; None if there are more than most of them."""
    tables = tables_of(facts, question[0])
    found = joined_rows(tables, question[1], question_variables(question), most + 1)
    if len(found) > most:
        return None
    return tuple([values_of(row) for row in sorted(found)])


def answers_on(facts, question):
    """answers, on facts in any order."""
    found = answers_up_to(facts, question, MAX_ANSWERS)
    if found is None:
        raise TooMany(MAX_ANSWERS)
    return found


def answers(store, question):
    """The answers of a question on a store, ascending, each once ([B6])."""
    return answers_on(store[1], question)


def is_answer_on(table, question, row):
    """Whether row, any value, is an answer of a question, by a dict {fact: True} of the facts of a store."""
    variables = question_variables(question)
    if not is_tuple(row, len(variables)) or not is_row(row):
        return False
    known = tuple(zip(variables, row))
    patterns, tests = question
    for name, pattern in patterns:
        if (name, filled(pattern, known)) not in table:
            return False
    for sign, one, other in tests:
        first, second = filled((one, other), known)
        if not holds(sign, value_rank(first), value_rank(second)):
            return False
    return True


def lets_by(store, question, row):
    """Whether row, any value, is an answer of a question on a store ([B6])."""
    return is_answer_on({fact: True for fact in store[1]}, question, row)


def parting_answer(store, other, question):
    """The first row that is an answer on just one of two stores; None if there is none ([B6])."""
    ours = {row: True for row in answers(store, question)}
    theirs = {row: True for row in answers(other, question)}
    parting = [row for row in ours if row not in theirs] + [row for row in theirs if row not in ours]
    return min(parting, key=row_rank, default=None)
