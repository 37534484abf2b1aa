"""Histories: a store and the changes behind it, one version after another ([B7])."""

from onlywith.errors import NoVersion
from onlywith.questions import answers_on
from onlywith.stores import alter, changed, store_of
from onlywith.terms import is_integer, matched


def store_at(history, version):
    """The store that is a version of the history; version may be any value ([B7])."""
    store, changes = history
    if not is_integer(version) or not 0 <= version <= len(changes):
        raise NoVersion(version)
    schema, facts = store
    table = {fact: True for fact in facts}
    for change in changes[:version]:
        alter(table, change)
    return store_of(schema, table)


def grown(history, change):
    """The history with one more change at the end; change may be any value ([B7])."""
    store, changes = history
    # Only for the error: changed tells whether this is a change of the last version.
    changed(store_at(history, len(changes)), change)
    return (store, changes + (change,))


def is_asked(question, fact):
    """Whether a pattern of a question can be the row of a fact."""
    return any([name == fact[0] and matched(pattern, fact[1], ()) is not None for name, pattern in question[0]])


def bears_on(table, change, question):
    """Whether a change takes out or puts in facts that a question asks for."""
    outs, ins = change
    moved = [fact for fact in outs if fact in table] + [fact for fact in ins if fact not in table]
    return any([is_asked(question, fact) for fact in moved])


def turns(history, question):
    """The versions on which a question has other answers than on the one ahead, ascending ([B7])."""
    store, changes = history
    table = {fact: True for fact in store[1]}
    ahead = answers_on(table, question)
    found = []
    for number, change in enumerate(changes, start=1):
        asked = bears_on(table, change, question)
        alter(table, change)
        if asked:
            now = answers_on(table, question)
            if now != ahead:
                found.append(number)
            ahead = now
    return tuple(found)
