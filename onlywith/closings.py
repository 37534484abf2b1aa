"""Closings: books of plain dealings and of groups, one behind another ([H5] to [H7])."""

from onlywith.dealings import refusal_on
from onlywith.errors import Refused
from onlywith.lots import group_error, lot_change
from onlywith.stores import change_error, changed


def group_refusal(store, pool, group):
    """Why any value is no group of the pool that can be done on a store; None if it is one."""
    error = group_error(store, pool, group)
    if error is not None:
        return error
    # A group keeps the keys, but it could bring too many facts.
    error = change_error(store, lot_change(pool, group))
    return None if error is None else ("change", error)


def closing_error(stores, last, closing):
    """Why a closing is not right on the last version, by a dict {version: store}; None if it is."""
    if closing[0] == "plain":
        return refusal_on(stores, last, closing[1])
    return group_refusal(stores[last], closing[1], closing[2])


def change_of(closing):
    """The change of a closing that is right."""
    if closing[0] == "plain":
        return closing[1][2]
    return lot_change(closing[1], closing[2])


def gone_through(store, book):
    """What book_error tells of a book on a store, and the store behind the closings that are right up to there."""
    stores = {0: store}
    for last, closing in enumerate(book):
        error = closing_error(stores, last, closing)
        if error is not None:
            return ((last, error), stores[last])
        stores[last + 1] = changed(stores[last], change_of(closing))
    return (None, stores[len(book)])


def book_error(store, book):
    """The place of the first closing of a book that is not right, and why; None if all are ([H6])."""
    error, _ = gone_through(store, book)
    return error


def store_behind(store, book):
    """The store behind all closings of a book ([H6])."""
    error, behind = gone_through(store, book)
    if error is not None:
        raise Refused(error)
    return behind
