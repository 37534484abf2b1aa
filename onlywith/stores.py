"""Stores: facts under a schema, and their changes ([B1] to [B4])."""

from onlywith.bounds import MAX_FACTS, MAX_RELATIONS, MAX_WIDTH
from onlywith.errors import BadChange
from onlywith.terms import is_integer, is_row, is_tuple, is_word, row_rank


def widths_of(schema):
    """The width of each relation, by its name."""
    return {name: width for name, width, _ in schema}


def keys_of(schema):
    """The key of each relation, by its name."""
    return {name: key for name, _, key in schema}


def is_key(value, width):
    """Whether any value is an ascending tuple of columns of so wide a relation."""
    if not isinstance(value, tuple):
        return False
    above = 0
    for column in value:
        if not is_integer(column) or not above <= column < width:
            return False
        above = column + 1
    return True


def is_relation(value):
    """Whether any value is a relation."""
    if not is_tuple(value, 3):
        return False
    name, width, key = value
    return is_word(name) and is_integer(width) and 1 <= width <= MAX_WIDTH and is_key(key, width)


def is_fact(widths, value):
    """Whether any value is a fact of the schema that has these widths."""
    if not is_tuple(value, 2):
        return False
    name, row = value
    return isinstance(name, str) and name in widths and is_tuple(row, widths[name]) and is_row(row)


def schema_error(value):
    """What is wrong with any value as a schema, as store_error tells it; None for a schema."""
    if not isinstance(value, tuple) or len(value) > MAX_RELATIONS:
        return "schema"
    ahead = ""
    for place, relation in enumerate(value):
        if not is_relation(relation) or not ahead < relation[0]:
            return ("relation", place)
        ahead = relation[0]
    return None


def facts_error(schema, value):
    """What is wrong with any value as the facts of a store; None if nothing is."""
    if not isinstance(value, tuple) or len(value) > MAX_FACTS:
        return "facts"
    widths = widths_of(schema)
    for place, fact in enumerate(value):
        if not is_fact(widths, fact):
            return ("fact", place)
    for place in range(1, len(value)):
        if not fact_rank(value[place - 1]) < fact_rank(value[place]):
            return ("order", place)
    return shared_key(schema, value)


def shared_key(schema, facts):
    """The ("key", place, further) of the first two facts that have one key; None if there are none."""
    keys = keys_of(schema)
    places = {}
    for place, fact in enumerate(facts):
        if keys[fact[0]]:
            places.setdefault(key_in(keys, fact), []).append(place)
    pairs = [alike for alike in list(places.values()) if len(alike) > 1]
    if not pairs:
        return None
    first = min(pairs)
    return ("key", first[0], first[1])


def store_error(value):
    """What is wrong with any value as a store; None for a store ([B2])."""
    if not is_tuple(value, 2):
        return "form"
    schema, facts = value
    error = schema_error(schema)
    if error is not None:
        return error
    return facts_error(schema, facts)


def fact_rank(fact):
    """What facts are compared by ([B2])."""
    return (fact[0], row_rank(fact[1]))


def key_in(keys, fact):
    """key_of, with the keys of the relations by their names."""
    name, row = fact
    if not keys[name]:
        return None
    return (name, tuple([row[column] for column in keys[name]]))


def key_of(schema, fact):
    """The name and the key values of a fact; None if its relation has no key ([B3])."""
    return key_in(keys_of(schema), fact)


def rival(store, fact):
    """The fact of the store that is unlike a fact and has one key with it; None if there is none ([B3])."""
    schema, facts = store
    keys = keys_of(schema)
    key = key_in(keys, fact)
    if key is None:
        return None
    for other in facts:
        if other != fact and key_in(keys, other) == key:
            return other
    return None


def side_error(widths, facts):
    """The first place in one side of a change at which no fact stands, or none above the one ahead."""
    for place, fact in enumerate(facts):
        if not is_fact(widths, fact):
            return place
        if place > 0 and not fact_rank(facts[place - 1]) < fact_rank(fact):
            return place
    return None


def form_error(schema, value):
    """What is wrong with any value as a change of any store of the schema; None if nothing is."""
    if not is_tuple(value, 2) or not isinstance(value[0], tuple) or not isinstance(value[1], tuple):
        return "form"
    widths = widths_of(schema)
    for word, side in zip(("out", "in"), value):
        place = side_error(widths, side)
        if place is not None:
            return (word, place)
    return None


def alter(table, change):
    """Does a change on a table {fact: True} of the facts of a store."""
    outs, ins = change
    for fact in outs:
        if fact in table:
            del table[fact]
    for fact in ins:
        table[fact] = True


def altered(facts, change):
    """The table {fact: True} of the facts behind a change."""
    table = {fact: True for fact in facts}
    alter(table, change)
    return table


def clash_error(schema, table, ins):
    """The ("key", fact) of the first in that has one key with another fact of the table."""
    keys = keys_of(schema)
    many = {}
    for fact in table:
        key = key_in(keys, fact)
        many[key] = many.get(key, 0) + 1
    for fact in ins:
        key = key_in(keys, fact)
        if key is not None and many[key] > 1:
            return ("key", fact)
    return None


def change_error(store, value):
    """What is wrong with any value as a change of the store; None for a change ([B4])."""
    schema, facts = store
    error = form_error(schema, value)
    if error is not None:
        return error
    outs, ins = value
    taken = {fact: True for fact in outs}
    both = [fact for fact in ins if fact in taken]
    if both:
        return ("both", both[0])
    table = altered(facts, value)
    error = clash_error(schema, table, ins)
    if error is None and len(table) > MAX_FACTS:
        return "many"
    return error


def store_of(schema, table):
    """The store with the facts of a table {fact: True}."""
    return (schema, tuple(sorted(list(table), key=fact_rank)))


def changed(store, change):
    """The store behind a change; change may be any value ([B4])."""
    error = change_error(store, change)
    if error is not None:
        raise BadChange(error)
    return store_of(store[0], altered(store[1], change))
