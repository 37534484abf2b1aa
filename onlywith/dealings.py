"""Dealings: plain changes that rest on what was read at an earlier version ([H1] to [H4])."""

from onlywith.bounds import MAX_READS
from onlywith.errors import Refused
from onlywith.histories import grown, store_at
from onlywith.questions import parting_answer, question_error
from onlywith.stores import change_error, form_error
from onlywith.terms import is_integer, is_tuple


def is_dealing(schema, value):
    """Whether any value is a dealing of the schema ([H1])."""
    if not is_tuple(value, 3):
        return False
    begin, reads, change = value
    if not is_integer(begin) or not isinstance(reads, tuple) or len(reads) > MAX_READS:
        return False
    return all([question_error(schema, read) is None for read in reads]) and form_error(schema, change) is None


def read_error(elder, store, reads):
    """The ("read", place, row) of the first question with other answers on two stores; None if there is none."""
    for place, question in enumerate(reads):
        row = parting_answer(elder, store, question)
        if row is not None:
            return ("read", place, row)
    return None


def refusal_on(stores, last, dealing):
    """refusal, by the last version and a dict {version: store} that has it, and that of begin if there is one."""
    begin, reads, change = dealing
    if begin not in stores:
        return ("begin",)
    # Nothing can be otherwise than at the last version itself, so no question is asked there.
    error = read_error(stores[begin], stores[last], reads) if begin < last else None
    if error is not None:
        return error
    error = change_error(stores[last], change)
    return None if error is None else ("change", error)


def refusal(history, dealing):
    """Why a dealing does not close on the history; None if it does ([H3])."""
    last = len(history[1])
    asked = [version for version in (dealing[0], last) if 0 <= version <= last]
    return refusal_on({version: store_at(history, version) for version in asked}, last, dealing)


def closed(history, dealing):
    """The history with the change of a dealing that closes ([H3])."""
    error = refusal(history, dealing)
    if error is not None:
        raise Refused(error)
    return grown(history, dealing[2])
