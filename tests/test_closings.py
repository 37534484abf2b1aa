"""Tests of onlywith.closings: [H5] to [H7]."""

import random
import unittest

from faircalls import DAY, NOTHING, day, wish
from hardpools import days, ring
from pools import SCHEMA, drawn_pool, drawn_store
from support import ANY, Case, spoilt, steady

book_error = steady("closings", "book_error")
store_behind = steady("closings", "store_behind")
refusal = steady("dealings", "refusal")
change_error = steady("stores", "change_error")
changed = steady("stores", "changed")
group_error = steady("lots", "group_error")
lot_change = steady("lots", "lot_change")
first_group = steady("groups", "first_group")

SEATS = ((("seat", ("?s", "?w")),), ())
START = (SCHEMA, (("day", (1,)), ("day", (2,)), ("seat", (1, "a"))))


def plain(begin, reads=(), change=NOTHING):
    return ("plain", (begin, tuple(reads), change))


# Each takes the seat of a day and the day itself, but only together with the other one.
PAIR = (
    (2, wish([("a", ("?d",))], [("b", ("?d",))], [("in", "tag", ("?d", "x")), ("out", "day", ("?d",))])),
    (5, wish([("b", ("?d",))], [("a", ("?d",))])),
)


def right(store, book):
    """What book_error tells, and the store behind, by what the document says alone."""
    stores, changes = [store], []
    for place, closing in enumerate(book):
        if closing[0] == "plain":
            error, change = refusal((store, tuple(changes)), closing[1]), closing[1][2]
        else:
            error = group_error(stores[-1], closing[1], closing[2])
            change = None if error is not None else lot_change(closing[1], closing[2])
            if error is None and change_error(stores[-1], change) is not None:
                error = ("change", change_error(stores[-1], change))
        if error is not None:
            return (place, error), stores[-1]
        changes.append(change)
        stores.append(changed(stores[-1], change))
    return None, stores[-1]


class Books(Case):
    def check(self, store, book, expected):
        """What book_error tells, and what store_behind makes of it."""
        found, behind = right(store, book)
        self.gives((book_error(store, book), found), (expected, expected))
        if expected is None:
            self.gives(store_behind(store, book), behind)
        else:
            self.raises("Refused", {"error": expected}, store_behind, store, book)

    def test_no_closings(self):
        self.check(START, (), None)
        self.gives(store_behind(START, ()), START)

    def test_plain_and_group(self):
        group = ((2, (2,)), (5, (2,)))
        for book in ((("group", PAIR, group),), (plain(0, [DAY]), ("group", PAIR, group), plain(1, [SEATS]), plain(3, [DAY]))):
            self.check(START, book, None)
        self.gives(store_behind(START, (("group", PAIR, group),))[1], day(1) + (("seat", (1, "a")), ("tag", (2, "x"))))

    def test_wrong_at_each_place(self):
        wrong = (
            (plain(-1), ("begin",)), (plain(9), ("begin",)), (plain(0, [DAY]), ("read", 0, (3,))),
            (plain(1, (), (day(1), day(1))), ("change", ("both", ("day", (1,))))),
            (("group", PAIR, ((2, (1,)),)), ("want", 0, 0)), (("group", PAIR, ((2, (7,)), (5, (7,)))), ("member", 0)),
            (("group", PAIR, None), "form"), (("group", PAIR, ()), "empty"), (("group", (), ((2, (1,)),)), ("member", 0)),
        )
        others = (plain(0, (), ((), day(3))), plain(1, [DAY]), ("group", PAIR, ((2, (3,)), (5, (3,)))), plain(1, [SEATS]))
        for closing, error in wrong:
            for place in range(1, len(others) + 1):
                if error == ("read", 0, (3,)) and place > 2:
                    # Behind the group the day 3 is gone again.
                    continue
                self.check(START, others[:place] + (closing,) + others[place:], (place, error))
                # What stands behind the wrong one is not looked at.
                self.check(START, others[:place] + (closing, plain(-1), ("group", PAIR, None)), (place, error))

    def test_first_closing(self):
        self.check(START, (plain(1),), (0, ("begin",)))
        self.check(START, (plain(0, [DAY], (day(1), ())), plain(0, [DAY])), (1, ("read", 0, (1,))))

    def test_groups_are_of_the_store_just_ahead(self):
        group = ((2, (1,)), (5, (1,)))
        self.check(START, (("group", PAIR, group), ("group", PAIR, group)), (1, ("member", 0)))
        self.check(START, (("group", PAIR, group), plain(1, (), ((), day(1))), ("group", PAIR, group)), None)
        self.check(START, (plain(0, (), (day(1), ())), ("group", PAIR, group)), (1, ("member", 0)))

    def test_no_group_but_a_lot(self):
        alone = ((0, wish()), (1, wish()))
        self.check(START, (("group", alone, ((0, (1,)), (1, (1,)))),), (0, ("part", ((0, (1,)),))))

    def test_not_the_first_group(self):
        group = ((2, (2,)), (5, (2,)))
        self.gives(first_group(START, PAIR) == group, False)
        self.check(START, (("group", PAIR, group),), None)

    def test_any_value_as_a_group(self):
        for value in ANY:
            self.gives(book_error(START, (plain(0), ("group", PAIR, value)))[0], 1)

    def test_too_many_facts(self):
        put = ((0, wish(writes=[("in", "tag", ("?d", "x")), ("in", "tag", (9, "y"))], body=((("day", (1,)), ("day", ("?d",))), ()))),)
        group = ((0, (1,)),)
        for many, expected in ((398, None), (399, (0, ("change", "many"))), (400, (0, ("change", "many")))):
            store = (SCHEMA, day(*range(many)))
            self.check(store, (("group", put, group),), expected)
        swap = ((0, wish(writes=[("in", "tag", ("?d", "x")), ("out", "day", ("?d",))])),)
        self.check((SCHEMA, day(*range(400))), (("group", swap, group), ("group", swap, ((0, (7,)),))), None)
        self.check((SCHEMA, day(*range(400))), (plain(0, (), ((), day(400))),), (0, ("change", "many")))
        self.check((SCHEMA, day(*range(399))), (plain(0, (), ((), day(399))), plain(1, (), ((), day(400)))), (1, ("change", "many")))

    def test_part_comes_ahead_of_many(self):
        put = ((0, wish(writes=[("in", "tag", (1, "x"))])), (1, wish()))
        self.check((SCHEMA, day(*range(400))), (("group", put, ((0, (1,)), (1, (1,)))),), (0, ("part", ((0, (1,)),))))

    def test_what_is_raised_goes_on(self):
        store = days(3)
        lot = tuple((number, (1,)) for number in range(13))
        big = ("group", ring(13), lot)
        pairs = ((("day", ("?a",)), ("day", ("?b",))), ())
        crowd = (SCHEMA, day(*range(45)))
        asks = (plain(0, (), ((), day(50))), plain(0, [pairs]))
        for ask in (book_error, store_behind):
            self.raises("TooMany", {"limit": 12}, ask, store, (big,))
            self.raises("TooMany", {"limit": 12}, ask, store, (plain(0), big, plain(-1)))
            self.raises("TooMany", {"limit": 2000}, ask, crowd, asks)
        self.check(store, (plain(1), big), (0, ("begin",)))
        self.check(crowd, (plain(-1),) + asks, (0, ("begin",)))
        self.check(crowd, (plain(0, [pairs]),), None)
        # A lot of thirteen that does not stand is told of, not refused.
        self.check(store, (("group", ring(13), lot[1:]),), (0, ("want", 11, 0)))

    def test_long_book(self):
        book = tuple(plain(number, [DAY], (day(number), day(number + 1))) for number in range(1, 400))
        store = (SCHEMA, day(1))
        self.check(store, (plain(0),) + book, None)
        self.gives(store_behind(store, (plain(0),) + book)[1], day(400))


def drawn_book(chance, store, pool):
    """A book with closings that are mostly right."""
    book, stores = [], [store]
    for _ in range(chance.choice((2, 4, 6))):
        group = first_group(stores[-1], pool)
        if group is not None and chance.random() < 0.6:
            closing = ("group", pool, group)
        else:
            begin = chance.randint(0, len(stores) - 1)
            outs = tuple(fact for fact in stores[-1][1] if chance.random() < 0.2)
            ins = day(*[number for number in range(4) if chance.random() < 0.3 and ("day", (number,)) not in outs])
            closing = plain(begin, [chance.choice((DAY, SEATS))] if chance.random() < 0.4 else [], (outs, ins))
        if right(store, tuple(book) + (closing,))[0] is not None and chance.random() < 0.7:
            continue
        book.append(closing)
        error, behind = right(store, tuple(book))
        if error is not None:
            break
        stores.append(behind)
    return tuple(book)


class Drawn(Case):
    def test_drawn(self):
        chance, found = random.Random(85), {True: 0, False: 0}
        for _ in range(150):
            store, pool = drawn_store(chance), drawn_pool(chance, chance.randint(1, 3), "ab")
            book = drawn_book(chance, store, pool)
            if chance.random() < 0.4:
                place = chance.randrange(len(book)) if book else 0
                groups = [at for at, closing in enumerate(book) if closing[0] == "group"]
                if groups:
                    place = chance.choice(groups)
                    book = book[:place] + (("group", pool, spoilt(chance, book[place][2])),) + book[place + 1:]
            error, behind = right(store, book)
            self.gives(book_error(store, book), error)
            found[error is None] += 1
            if error is None:
                self.gives(store_behind(store, book), behind)
                self.holds(chance, store, book)
        self.gives(min(found.values()) > 20, True)

    def holds(self, chance, store, book):
        """[H7]: of a right book."""
        for many in range(len(book) + 1):
            self.gives(book_error(store, book[:many]), None)
        self.gives(book_error(store, tuple(own_place(place, closing) for place, closing in enumerate(book))), None)
        for many in range(len(book) + 1):
            first, second = book[:many], book[many:]
            if all(closing[0] == "group" or closing[1][0] >= many for closing in second):
                lessened = tuple(
                    closing if closing[0] == "group" else plain(closing[1][0] - many, *closing[1][1:]) for closing in second
                )
                middle = store_behind(store, first)
                self.gives((book_error(middle, lessened), store_behind(middle, lessened)), (None, store_behind(store, book)))


def own_place(place, closing):
    """The closing, begun at its own place if it is a plain one."""
    return closing if closing[0] == "group" else plain(place, *closing[1][1:])


if __name__ == "__main__":
    unittest.main()
