"""What the document tells of a fair, laid of the functions of the other parts alone."""

from onlywith.dealings import refusal
from onlywith.errors import TooMany
from onlywith.groups import first_group
from onlywith.kept import touched
from onlywith.lots import lot_change
from onlywith.questions import question_error
from onlywith.stores import change_error, changed
from onlywith.wishes import wish_error


class Wrong(Exception):
    """What a call raises: the name of the error and what it keeps."""


def is_plain_int(value):
    return type(value) is int


def dealing_by_form(store, value):
    """Whether any value is a dealing by its form."""
    if type(value) is not tuple or len(value) != 3 or not is_plain_int(value[0]):
        return False
    if type(value[1]) is not tuple or len(value[1]) > 4 or not all(question_error(store[0], read) is None for read in value[1]):
        return False
    error = change_error((store[0], ()), value[2])
    return error is None or error == "many" or error[0] in ("both", "key")


class Model:
    """A fair as [I6] to [I9] tell it: lists that are gone through again and again."""

    def __init__(self, store):
        self.stores, self.changes, self.waiting, self.happened, self.count, self.came = [store], [], {}, [], 0, 0

    def state(self):
        """store, version, pool, tills, events and asked."""
        pool = tuple((number, self.waiting[number][0]) for number in sorted(self.waiting))
        tills = tuple((number, self.waiting[number][1]) for number in sorted(self.waiting) if self.waiting[number][1] is not None)
        return (self.stores[-1], len(self.stores) - 1, pool, tills, tuple(self.happened), self.count)

    def copy(self):
        model = Model(self.stores[0])
        model.take(self)
        return model

    def take(self, other):
        self.stores, self.changes, self.waiting = list(other.stores), list(other.changes), dict(other.waiting)
        self.happened, self.count, self.came = list(other.happened), other.count, other.came

    def call(self, name, *values):
        """("returns", value), or ("raises", name, what is kept), and then nothing is done."""
        ahead = self.copy()
        try:
            return ("returns", getattr(self, name)(*values))
        except Wrong as wrong:
            self.take(ahead)
            return ("raises",) + wrong.args
        except TooMany as error:
            self.take(ahead)
            return ("raises", "TooMany", {"limit": error.limit})

    def come(self, wish, till=None):
        error = wish_error(self.stores[0][0], wish)
        if error is not None:
            raise Wrong("BadWish", {"error": error})
        if till is not None and not is_plain_int(till):
            raise Wrong("Unfit", {})
        number, version = self.came, len(self.stores) - 1
        self.came += 1
        if till is not None and till <= version:
            self.happened.append(("alone", version, number))
            return number
        self.waiting[number] = (wish, till)
        self.count += 1
        self.rest()
        return number

    def back(self, number):
        if not is_plain_int(number) or number not in self.waiting:
            raise Wrong("NotWaiting", {"given": number})
        del self.waiting[number]
        self.happened.append(("back", len(self.stores) - 1, number))

    def plain(self, dealing):
        if not dealing_by_form(self.stores[-1], dealing):
            raise Wrong("Unfit", {})
        error = refusal((self.stores[0], tuple(self.changes)), dealing)
        if error is not None:
            raise Wrong("Refused", {"error": error})
        self.close(dealing[2], None)
        version = len(self.stores) - 1
        self.rest()
        return version

    def at(self, version):
        if not is_plain_int(version) or not 0 <= version < len(self.stores):
            raise Wrong("NoVersion", {"given": version})
        return self.stores[version]

    def rest(self):
        while True:
            pool = self.state()[2]
            group = first_group(self.stores[-1], pool)
            if group is None:
                return
            self.close(lot_change(pool, group), group)

    def close(self, change, group):
        error = change_error(self.stores[-1], change)
        if error is not None:
            raise Wrong("TooMany", {"limit": {"many": 400}[error]})
        self.stores.append(changed(self.stores[-1], change))
        self.changes.append(change)
        version = len(self.stores) - 1
        if group is None:
            self.happened.append(("plain", version))
        else:
            numbers = [number for number, _ in group]
            for number, filling in group:
                del self.waiting[number]
                self.happened.append(("done", version, number, filling, tuple(other for other in numbers if other != number)))
        for number in sorted(self.waiting):
            till = self.waiting[number][1]
            if till is not None and till <= version:
                del self.waiting[number]
                self.happened.append(("alone", version, number))
        self.count += len(touched(self.stores[0][0], self.state()[2], change))
