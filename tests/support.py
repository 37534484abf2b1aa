"""What the tests share: the interface, calls that are asked several ways, and values of all sorts."""

import importlib
import unittest

from onlywith.errors import WithError

# The names of the arguments of each function, as the document writes them.
INTERFACE = {
    "terms": {
        "is_value": ("value",), "is_variable": ("value",), "value_rank": ("value",), "row_rank": ("row",),
        "variables_of": ("pattern",), "filled": ("pattern", "known"), "known_row": ("known", "variables"),
        "matched": ("pattern", "row", "known"),
    },
    "unifying": {"marked": ("pattern", "number"), "unified": ("equations",), "fits": ("pattern", "other")},
    "stores": {
        "store_error": ("value",), "fact_rank": ("fact",), "key_of": ("schema", "fact"), "rival": ("store", "fact"),
        "change_error": ("store", "value"), "changed": ("store", "change"),
    },
    "questions": {
        "question_error": ("schema", "value"), "question_variables": ("question",), "answers": ("store", "question"),
        "lets_by": ("store", "question", "row"), "parting_answer": ("store", "other", "question"),
    },
    "histories": {
        "store_at": ("history", "version"), "grown": ("history", "change"), "turns": ("history", "question"),
    },
    "wishes": {
        "wish_error": ("schema", "value"), "fillings": ("store", "wish"), "said": ("wish", "filling"),
        "wanted": ("wish", "filling"), "writes_of": ("wish", "filling"), "own_clash": ("schema", "wish", "filling"),
    },
    "wishtexts": {"wish_text": ("wish",), "read_wish": ("value",)},
    "strikes": {
        "pool_error": ("schema", "value"), "candidates": ("store", "pool"), "struck": ("store", "pool"),
        "reason_of": ("store", "pool", "left", "member"), "lines_hold": ("store", "pool", "value"),
    },
    "lots": {
        "lot_error": ("store", "pool", "value"), "stands": ("store", "pool", "lot"), "lot_change": ("pool", "lot"),
        "group_error": ("store", "pool", "value"),
    },
    "groups": {"first_group": ("store", "pool")},
    "papers": {"no_paper": ("store", "pool"), "no_holds": ("store", "pool", "value")},
    "tame": {
        "tame_error": ("schema", "pool"), "makers": ("pool", "number", "place"), "partners": ("pool", "number"),
        "joined": ("pool", "number"), "tame_first": ("store", "pool"), "tame_paper": ("store", "pool", "number"),
    },
    "kinds": {
        "constants_of": ("templates",), "kinds_of": ("templates", "place"),
        "kind_of": ("templates", "place", "filling"), "shape": ("templates", "place", "kind", "pattern"),
    },
    "ever": {
        "family": ("templates",), "can_ever": ("templates", "place"), "ever_lot": ("templates", "place"),
        "ever_holds": ("templates", "place", "value"),
    },
    "copies": {"least_copies": ("templates", "place")},
    "dealings": {"refusal": ("history", "dealing"), "closed": ("history", "dealing")},
    "closings": {"book_error": ("store", "book"), "store_behind": ("store", "book")},
    "kept": {
        "touched": ("schema", "pool", "change"), "untouched": ("store", "pool", "paper", "change"),
        "without_wish": ("paper", "number"), "with_change": ("store", "pool", "paper", "change"),
    },
    "logs": {"entry_line": ("entry",), "read_line": ("value",), "log_text": ("entries",), "read_log": ("text",)},
    "ledgers": {"come_up": ("picture", "text")},
}

# {class: (module, names of the arguments it is made with, {method: names of its arguments}, properties)}
CLASSES = {
    "Fair": (
        "fairs", ("store",),
        {"come": ("wish", "till"), "back": ("number",), "plain": ("dealing",), "paper": (), "at": ("version",), "copy": (),
         "attempt": ("work",)},
        ("store", "version", "pool", "tills", "events", "asked"),
    ),
    "Ledger": (
        "ledgers", ("store",),
        {"do": ("record", "source"), "force": (), "answers": (), "heard": ("door",), "text": (), "fair": (), "picture": ()}, (),
    ),
    "House": ("doors", ("ledger",), {"hear": ("value",)}, ("ledger",)),
    "Door": (
        "doors", ("number",), {"send": ("record",), "letters": (), "ask": (), "hear": ("value",)}, ("number", "replies", "told"),
    ),
    "Shell": ("shells", (), {"say": ("line",)}, ()),
}


def outcome(work):
    """What a call returns, or the name and what is kept of the error of this package that it raises."""
    try:
        return ("returns", work())
    except WithError as error:
        return ("raises", error.__class__.__name__, sorted(vars(error).items()), error)


def told(result):
    """An outcome as a text, which tells True from 1, and a list from a tuple."""
    return repr(result[:3])


def steady(module, name):
    """The function of the program, asked by place, by name and by place again.

    Each time the result has to be the same, and what is passed has to stay as it is ([A3]).
    """
    function = getattr(importlib.import_module("onlywith." + module), name)
    names = INTERFACE[module][name]

    def asked(*values):
        before = repr(values)
        first = outcome(lambda: function(*values))
        text = told(first)
        second = outcome(lambda: function(**dict(zip(names, values))))
        third = outcome(lambda: function(*values))
        if not text == told(first) == told(second) == told(third):
            raise AssertionError(f"{name}: {told(first)}, then {told(second)}, then {told(third)}")
        if repr(values) != before:
            raise AssertionError(f"{name} changed what it was passed: {before}")
        if first[0] == "raises":
            raise first[3]
        return first[1]

    return asked


# How many of the first things that a pair returned are looked at again and again.
MOST_KEPT = 40


class Pair:
    """Two objects of a class of the program, made and called alike: the one by place, the other one by name.

    What both tell has to be the same, what is passed has to stay as it is, and so has what was returned ([A3]).
    """

    def __init__(self, objects):
        self.objects = objects
        self.kind = objects[0].__class__.__name__
        self.kept = []

    def __getattr__(self, name):
        _, _, methods, properties = CLASSES[self.kind]
        if name in properties:
            return self.both(name, [lambda: getattr(self.objects[0], name), lambda: getattr(self.objects[1], name)])
        names = methods[name]

        def called(*values):
            by_place, by_name = told_apart(values)
            before = text_of(values)
            result = self.both(name, [
                lambda: getattr(self.objects[0], name)(*by_place),
                lambda: getattr(self.objects[1], name)(**dict(zip(names, by_name))),
            ])
            if text_of(values) != before:
                raise AssertionError(f"{name} changed what it was passed: {before}")
            return result

        return called

    def both(self, name, works):
        """What both works tell or raise."""
        results = [outcome(work) for work in works]
        if results[0][0] == "returns" == results[1][0] and results[0][1].__class__.__name__ in CLASSES:
            return Pair([results[0][1], results[1][1]])
        text = told(results[0])
        if text != told(results[1]):
            raise AssertionError(f"{self.kind}.{name}: {text}, and {told(results[1])}")
        if results[0][0] == "raises":
            raise results[0][3]
        if len(self.kept) < MOST_KEPT:
            self.kept.append((results[0][1], repr(results[0][1])))
        for value, before in self.kept:
            if repr(value) != before:
                raise AssertionError(f"{self.kind}.{name}: what was returned changed later: {before}, and {value!r}")
        return results[0][1]


def told_apart(values):
    """The values for the one and for the other object of a pair."""
    return [[value.objects[at] if isinstance(value, Pair) else value for value in values] for at in range(2)]


def text_of(values):
    """Values as a text; pairs and functions are left out."""
    return repr([value for value in values if not isinstance(value, Pair) and not callable(value)])


def made(kind, *values):
    """A pair of a class of the program."""
    module, names, _, _ = CLASSES[kind]
    maker = getattr(importlib.import_module("onlywith." + module), kind)
    by_place, by_name = told_apart(values)
    return Pair([maker(*by_place), maker(**dict(zip(names, by_name)))])


class Case(unittest.TestCase):
    """A test case that compares values along with their kinds."""

    def gives(self, found, expected):
        self.assertEqual(repr(found), repr(expected))

    def raises(self, name, kept, function, *values):
        """The call raises the error of this name, which keeps just these pairs (name, value)."""
        try:
            found = function(*values)
        except WithError as error:
            self.gives((error.__class__.__name__, vars(error)), (name, kept))
        else:
            self.fail(f"{name} is not raised, but returned: {found!r}")


def paths_of(value, ahead=()):
    """The paths to the value itself and to all that is within its tuples."""
    found = [ahead]
    for place, item in enumerate(value if isinstance(value, tuple) else ()):
        found += paths_of(item, ahead + (place,))
    return found


def at_path(value, path):
    """What stands at a path within a value."""
    for place in path:
        value = value[place]
    return value


def with_at(value, path, new):
    """The value with something new at a path."""
    if not path:
        return new
    return value[:path[0]] + (with_at(value[path[0]], path[1:], new),) + value[path[0] + 1:]


def spoilt_item(chance, item, others):
    """Something else in the place of an item; others are what stands elsewhere."""
    if isinstance(item, tuple) and item and chance.random() < 0.8:
        place, further = chance.randrange(len(item)), chance.randrange(len(item))
        rest = item[:place] + item[place + 1:]
        return chance.choice([
            rest, rest[:further] + (item[place],) + rest[further:], item[:place] + (item[place],) + item[place:], list(item),
            item[:place] + (None,) + item[place + 1:], item + (chance.choice(others),), item[::-1],
        ])
    if isinstance(item, int) and chance.random() < 0.5:
        return chance.choice([item + 1, item - 1, -item, item == 1, str(item), bool(item)])
    return chance.choice([None, (), [], item == 1, 0, 1, "own", "want", "key", "clash"] + others)


def spoilt(chance, value):
    """The value with something else at one place within it."""
    paths = paths_of(value)
    path = chance.choice(paths)
    others = [at_path(value, chance.choice(paths)) for _ in range(4)]
    return with_at(value, path, spoilt_item(chance, at_path(value, path), others))


def nested(value, deep):
    """The value within so many tuples, lists and dicts, by turns."""
    for number in range(deep):
        value = ((value,), [value], {"a": value})[number % 3]
    return value


# Values that are neither values nor variables, nor tuples.
ODD = [
    None, True, False, 10 ** 9 + 1, -10 ** 9 - 1, 10 ** 400 - 1, 1 - 10 ** 400, "", " ", "Anna", "aNna", "an na",
    "anna1", "an-na", "anna\n", "a" * 13, "a" * 20000, "A" * 20000, "1", "-7", "\n", "?", "??x", "?X", "?x1", "?days",
    "? x", "x?", "?x ", "?x.", "?x.-1", "?x.07", "?x.00", "?x.1.2", "?x.+1", "?x. 1", "?x.1 ", "?x.1\n", "?.1",
    "?days.1", "?x.a", "?x.1000000001", "?x.01000000000", "?x." + "1" * 19000, "?x." + "0" * 19000, "." * 20000,
    [], {}, ["a"], {"a": 1}, {1: {"?x": None}}, nested("a", 19), [()] * 4000,
]

TUPLES = [
    (), ((),), (None,), (1,), ("a",), ("?x",), (1, 2), ("a", "b", "c"), ((), ()), ([], {}), (True, False, 1),
    ((), (), (), ()), ((1, 2), (3, 4)), nested(1, 19), tuple(range(4000)), (("a", (1,)),), ((("a", 1, ()),), ()),
]

VALUES = [0, 1, -1, 7, 10 ** 9, -10 ** 9, "a", "z", "anna", "abcdefghijkl", "z" * 12, "none", "true"]

VARIABLES = [
    "?a", "?z", "?x", "?ab", "?xyz", "?x.0", "?x.7", "?x.10", "?day.12", "?xyz.1000000000", "?a.999999999",
]

ANY = ODD + TUPLES + VALUES + VARIABLES
