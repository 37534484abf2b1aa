"""Tests of onlywith.ledgers: [J3] to [J6]."""

import random
import unittest

from faircalls import START, WAITS, day, drawn_call, on_day, put, state, wish, words
from onlywith.errors import WithError
from onlywith.fairs import Fair
from onlywith.ledgers import Ledger, come_up
from pools import SCHEMA, drawn_store
from support import ANY, Case, Pair, made, steady
from test_logs import check

log_text = steady("logs", "log_text")
read_log = steady("logs", "read_log")
store_error = steady("stores", "store_error")

BAD = ("BadRecord", {})
ONE = wish(words("a"), words("b"), [("in", "seat", ("?d", "x"))])
OTHER = wish(words("b"), words("a"))


def sealed(lines):
    """Lines with their check behind them."""
    text = "\n".join(lines)
    return f"{text}\n{check(text)}"


def up(picture, text):
    """The ledgers that come up of a picture and a text."""
    return Pair([come_up(picture, text), come_up(picture=picture, text=text)])


def done(fair, record):
    """The answer to a record, as [J3] tells it."""
    try:
        return getattr(fair, record[0])(*record[1:])
    except WithError as error:
        return ("error", type(error).__name__)


class Beside:
    """What a ledger has to tell, by a fair and lists."""

    def __init__(self, store):
        self.fair, self.entries, self.told, self.forced, self.pictured = Fair(store), [], [], 0, 0

    def do(self, record, source=None):
        answer = done(self.fair, record)
        self.entries.append((source, record))
        self.told.append((source, record[0], answer))
        return answer

    def texts(self):
        """answers, text, and how many entries each of some doors has."""
        doors = [len([one for one in self.told if one[0] is not None and one[0][0] == door]) for door in range(4)]
        return tuple(self.told[:self.forced]), log_text(tuple(self.entries[self.pictured:self.forced])), doors


class Checked(Case):
    def same(self, ledger, beside):
        self.gives((ledger.answers(), ledger.text(), [ledger.heard(door) for door in range(4)]), beside.texts())
        self.gives(state(ledger.fair()), state(beside.fair))

    def alike(self, ledger, other):
        """Two ledgers tell the same of all that they did, and do the same from now on."""
        self.gives((ledger.answers(), state(ledger.fair())), (other.answers(), state(other.fair())))
        self.gives([ledger.heard(door) for door in range(4)], [other.heard(door) for door in range(4)])
        self.gives(ledger.fair().come(WAITS), other.fair().come(WAITS))
        self.gives([ledger.fair().at(version) for version in range(ledger.fair().version + 1)],
                   [other.fair().at(version) for version in range(other.fair().version + 1)])


def drawn_record(chance, fair):
    """A record with any source."""
    while True:
        call = drawn_call(chance, fair)
        if call[0] == "come":
            call = call + (None,) * (3 - len(call))
        try:
            Ledger(((), ())).do(call)
        except WithError:
            # It has no plain value, or it is no record at all.
            continue
        return call


def drawn_ledger(chance, many):
    """A ledger, and what it has to tell."""
    store = drawn_store(chance)
    ledger, beside = made("Ledger", store), Beside(store)
    for _ in range(many):
        step(chance, ledger, beside)
    return ledger, beside


def step(chance, ledger, beside):
    source = chance.choice((None, (chance.randint(0, 3), chance.randint(0, 9))))
    record = drawn_record(chance, beside.fair)
    expected = beside.do(record, source)
    found = ledger.do(record, source) if source is not None or chance.random() < 0.5 else ledger.do(record)
    if repr(found) != repr(expected):
        raise AssertionError(f"{record}: {found}, not {expected}")
    if chance.random() < 0.4:
        beside.forced = len(beside.entries)
        if ledger.force() != beside.forced:
            raise AssertionError("forced")


class Do(Checked):
    def test_bad_store(self):
        for value in ANY:
            if store_error(value) is not None:
                self.raises("BadStore", {"error": store_error(value)}, Ledger, value)
                self.raises("BadStore", {"error": store_error(value)}, lambda told: Ledger(store=told), value)

    def test_answers(self):
        ledger = made("Ledger", START)
        records = (
            (("come", ONE, None), 0), (("come", OTHER, 5), 1), (("back", 0), ("error", "NotWaiting")), (("come", WAITS, 0), 2), (("come", WAITS, None), 3),
            (("back", 3), None), (("come", WAITS, "soon"), ("error", "Unfit")), (("come", "wish", None), ("error", "BadWish")), (("plain", put(5)), 2),
            (("plain", (9, (), ((), ()))), ("error", "Refused")), (("plain", "x"), ("error", "Unfit")), (("back", None), ("error", "NotWaiting")),
            (("come", WAITS, None), 4),
        )
        for record, answer in records:
            self.gives(ledger.do(record), answer)
        self.gives((ledger.force(), ledger.answers()), (len(records), tuple((None, record[0], answer) for record, answer in records)))

    def test_refused_records_change_nothing(self):
        ledger = made("Ledger", START)
        ledger.do(("come", WAITS, None))
        before = state(ledger.fair())
        for record in (("come", WAITS[:3], None), ("come", WAITS, ()), ("back", 1), ("back", "a"), ("plain", (1, (), ((), ()))), ("plain", None)):
            self.gives((ledger.do(record)[0], state(ledger.fair())), ("error", before))
        self.gives(ledger.force(), 7)

    def test_too_many_of_the_fair(self):
        ledger = made("Ledger", (SCHEMA, day(*range(45))))
        pairs = ((("day", ("?a",)), ("day", ("?b",))), ())
        self.gives(ledger.do(("come", WAITS, None)), 0)
        self.gives(ledger.do(("come", WAITS, None)), ("error", "TooMany"))
        self.gives(ledger.do(("plain", (0, (pairs,), ((), day(1))))), 1)
        self.gives(ledger.do(("plain", (0, (pairs,), ((), day(1))))), ("error", "TooMany"))
        for _ in range(12):
            ledger.do(("come", on_day(99, [], words("no")), None))
        self.gives((ledger.force(), ledger.answers()[-1]), (16, (None, "come", ("error", "TooMany"))))

    def test_wrong_records(self):
        ledger = made("Ledger", START)
        wrong = ANY + [
            ("come",), ("come", WAITS), ("come", WAITS, None, None), ["come", WAITS, None], ("Come", WAITS, None), ("back",), ("back", 1, 2), ["back", 1],
            ("plain",), ("plain", 1, 2), ("done", 1), ("back", True), ("back", []), ("back", "a b"), ("back", ""), ("back", (True,)), ("back", [0]),
            ("come", WAITS, True), ("come", list(WAITS), None), ("come", WAITS, 10 ** 400), ("plain", (0, [], ((), ()))), (1, 2), (None, 0), (("back",), 0),
        ]
        for record in wrong:
            for source in (None, (0, 0)):
                self.raises(*BAD, ledger.do, record, source)
        self.gives((ledger.force(), ledger.answers(), ledger.text()), (0, (), ""))

    def test_wrong_sources(self):
        ledger = made("Ledger", START)
        record = ("come", WAITS, None)
        for source in ANY + [(0,), (0, 0, 0), [0, 0], (0, -1), (-1, 0), (True, 0), (0, False), (None, 0), (0, None), ("a", 0), (10 ** 400, 0), (0, 10 ** 400), ((0, 0), 0)]:
            if source is not None and source != (1, 2):
                self.raises(*BAD, ledger.do, record, source)
        self.gives(ledger.force(), 0)
        for source in (None, (0, 0), (7, 7), (7, 7), (10 ** 400 - 1, 10 ** 400 - 1)):
            ledger.do(record, source)
        self.gives((ledger.force(), ledger.heard(7), ledger.heard(10 ** 400 - 1)), (5, 2, 1))

    def test_two_hundred_entries(self):
        ledger = made("Ledger", START)
        for number in range(200):
            self.gives(ledger.do(("back", number), (1, number)), ("error", "NotWaiting"))
        for record in (("back", 0), ("come", ONE, None), ("plain", put(3))):
            self.raises("TooMany", {"limit": 200}, ledger.do, record)
            self.raises("TooMany", {"limit": 200}, ledger.do, record, (1, 200))
        # What is none comes ahead.
        self.raises(*BAD, ledger.do, ("back", True))
        self.raises(*BAD, ledger.do, ("back", 0), (1, True))
        self.gives((ledger.heard(1), ledger.force(), ledger.heard(1), len(read_log(ledger.text()))), (200, 200, 200, 200))
        self.gives((ledger.fair().pool, ledger.fair().version), ((), 0))
        picture = ledger.picture()
        self.raises("TooMany", {"limit": 200}, up(picture, "").do, ("back", 0))
        self.raises("TooMany", {"limit": 200}, ledger.do, ("back", 0))

    def test_heard(self):
        ledger = made("Ledger", START)
        for source in (None, (1, 0), (0, 0), (1, 5), (1, 5), None):
            ledger.do(("back", 0), source)
        self.gives([ledger.heard(door) for door in (0, 1, 2, 5, -1)], [1, 3, 0, 0, 0])
        for door in ANY + [True, False, None, "1", (1,), (1, 0), [1], 10 ** 400 - 1, 1.0]:
            if door not in (0, 1) or type(door) is not int:
                self.gives(ledger.heard(door), 0)

    def test_entries_that_are_not_forced(self):
        ledger = made("Ledger", START)
        ledger.do(("come", WAITS, None), (1, 0))
        self.gives((ledger.answers(), ledger.text(), ledger.heard(1), len(ledger.fair().pool)), ((), "", 1, 1))
        self.gives(ledger.picture(), made("Ledger", START).picture())
        self.gives(ledger.force(), 1)
        ledger.do(("back", 0), (1, 1))
        told = ((1, 0), "come", 0)
        self.gives((ledger.answers(), ledger.text(), ledger.heard(1), len(ledger.fair().pool)), ((told,), log_text((((1, 0), ("come", WAITS, None)),)), 2, 0))
        self.gives((ledger.force(), ledger.force(), len(ledger.answers())), (2, 2, 2))

    def test_fair_is_a_copy(self):
        ledger = made("Ledger", START)
        fair = ledger.fair()
        fair.come(ONE)
        self.gives((ledger.fair().pool, ledger.do(("come", WAITS, None))), ((), 0))
        self.gives([number for number, _ in fair.pool], [0])
        self.gives(ledger.fair().pool, ((0, WAITS),))

    def test_drawn(self):
        chance, words_told = random.Random(121), {}
        for _ in range(25):
            ledger, beside = drawn_ledger(chance, 0)
            for _ in range(12):
                step(chance, ledger, beside)
                self.same(ledger, beside)
            for _, word, answer in beside.told:
                key = (word, answer[1] if isinstance(answer, tuple) else "")
                words_told[key] = words_told.get(key, 0) + 1
        for key in (("come", ""), ("come", "BadWish"), ("back", ""), ("back", "NotWaiting"), ("plain", ""), ("plain", "Refused")):
            self.gives(words_told.get(key, 0) > 4, True)


def busy_ledger(forced=True):
    """A ledger with wishes that were done, told alone, taken back, and that wait."""
    ledger = made("Ledger", START)
    for record, source in ((("come", ONE, None), (1, 0)), (("come", WAITS, 7), (1, 1)), (("come", OTHER, None), (2, 0)), (("come", WAITS, 1), None), (("come", WAITS, None), None),
                           (("back", 4), (2, 1)), (("come", WAITS, None), None), (("plain", put(5)), (3, 0)), (("back", "no"), None)):
        ledger.do(record, source)
    if forced:
        ledger.force()
    return ledger


class Pictures(Checked):
    def test_first_picture(self):
        text = made("Ledger", START).picture()
        lines = ["picture", "(((day, 1, ()), (seat, 2, (0)), (tag, 2, (0))), ((day, (1)), (day, (2))))", "()", "()", "()", "()", "0", "()"]
        self.gives(text, sealed(lines))

    def test_lines(self):
        ledger = busy_ledger()
        fair = ledger.fair()
        lines = ledger.picture().split("\n")
        self.gives((len(lines), lines[0], lines[8]), (9, "picture", str(check("\n".join(lines[:8])))))
        self.gives(lines[2], "(((), ((seat, (1, x)))), ((), ((day, (5)))))")
        self.gives(lines[4:7], ["((1, 7))", "((done, 1, 0, (1), (2)), (done, 1, 2, (1), (0)), (alone, 1, 3), (back, 1, 4), (plain, 2))", str(fair.asked)])
        self.gives(lines[7], "(((1, 0), come, 0), ((1, 1), come, 1), ((2, 0), come, 2), (*, come, 3), (*, come, 4), ((2, 1), back, *), (*, come, 5), ((3, 0), plain, 2), (*, back, (error, NotWaiting)))")
        self.gives([line.count("day") for line in lines[1:4]], [3, 1, 2])

    def test_numbers_go_on(self):
        """The next number is that of wishes that came, also of those that were done, told alone, taken back."""
        picture = busy_ledger().picture()
        self.gives((up(picture, "").do(("come", WAITS, None)), up(picture, log_text(((None, ("come", WAITS, None)),))).do(("back", 6))), (6, None))
        for record, expected in ((("come", WAITS, 0), 1), (("come", wish(), None), 1), (("come", WAITS, None), 1)):
            ledger = made("Ledger", START)
            ledger.do(record)
            ledger.force()
            self.gives(up(ledger.picture(), "").do(("come", WAITS, None)), expected)
        ledger = made("Ledger", START)
        for record in (("come", WAITS, None), ("back", 0), ("come", WAITS, None), ("back", 1), ("plain", put(7))):
            ledger.do(record)
        ledger.force()
        self.gives(up(ledger.picture(), "").do(("come", WAITS, None)), 2)

    def test_text_behind_a_picture(self):
        ledger = busy_ledger()
        elder = ledger.text()
        first = made("Ledger", START).picture()
        then = ledger.picture()
        self.gives((ledger.text(), len(ledger.answers())), ("", 9))
        ledger.do(("come", WAITS, None), (1, 2))
        self.gives((ledger.text(), ledger.picture() == then, ledger.text()), ("", True, ""))
        ledger.force()
        self.gives(ledger.text(), log_text((((1, 2), ("come", WAITS, None)),)))
        self.alike(up(then, ledger.text()), up(first, elder + ledger.text()))
        self.alike(up(ledger.picture(), ""), up(first, elder + log_text((((1, 2), ("come", WAITS, None)),))))

    def test_entries_that_are_not_forced(self):
        for forced in (0, 3, 8):
            ledger, told = made("Ledger", START), []
            for number, (source, record) in enumerate(read_log(busy_ledger().text())):
                if number == forced:
                    ledger.force()
                ledger.do(record, source)
                told.append((source, record))
            picture = ledger.picture()
            beside = made("Ledger", START)
            for source, record in told[:forced]:
                beside.do(record, source)
            beside.force()
            self.alike(up(picture, ""), beside)
            self.gives((ledger.text(), len(ledger.answers()), ledger.heard(1)), ("", forced, 2))
            ledger.force()
            self.gives(ledger.text(), log_text(tuple(told[forced:])))
            self.alike(up(picture, ledger.text()), busy_ledger())
            self.alike(up(ledger.picture(), ""), busy_ledger())

    def test_pictures_are_equal(self):
        self.gives(busy_ledger().picture(), busy_ledger().picture())
        ledger = busy_ledger()
        self.gives(ledger.picture(), ledger.picture())
        self.gives(up(ledger.picture(), "").picture(), ledger.picture())


class BadPictures(Checked):
    def bad(self, place, picture, text=""):
        self.raises("BadPicture", {"place": place}, come_up, picture, text)

    def test_cut_at_each_sign(self):
        picture = busy_ledger().picture()
        lines = picture.split("\n")
        for at in range(len(picture)):
            part = picture[:at].split("\n")
            place = len(part) - 1
            if place == 0:
                self.bad(0 if part[0] != "picture" else 1, picture[:at])
            elif part[-1] == lines[place] or place == 6 and part[-1]:
                self.bad(place + 1, picture[:at])
            else:
                self.bad(place, picture[:at])

    def test_one_sign_otherwise(self):
        picture = busy_ledger().picture()
        chance = random.Random(122)
        for at, sign in enumerate(picture):
            place = picture[:at].count("\n")
            for new in ("", "a", "7", "(", " ", ",", sign + "0", "%"):
                if new == sign:
                    continue
                changed = picture[:at] + new + picture[at + 1:]
                if sign == "\n":
                    with self.assertRaises(WithError) as caught:
                        come_up(changed, "")
                    self.gives(caught.exception.place in (place, place + 1, 8), True)
                    continue
                # Where the line is another plain text the check tells it.
                with self.assertRaises(WithError) as caught:
                    come_up(changed, chance.choice(("", "x\n")))
                self.gives((type(caught.exception).__name__, caught.exception.place in (place, 8)), ("BadPicture", True))

    def test_places(self):
        lines = made("Ledger", START).picture().split("\n")[:8]
        self.gives(up(sealed(lines), "").answers(), ())
        for place in range(8):
            for wrong in ("", " ", "(", "()()", "( )", "(1,2)", "01", "%", "a b", "(" * 21 + ")" * 21, "(" * 5000, "9" * 401, "9" * 5000, lines[place] + " ", " " + lines[place]):
                self.bad(place, sealed(lines[:place] + [wrong] + lines[place + 1:]))
                # Only the first wrong line is told.
                self.bad(place, sealed((lines[:place] + [wrong] + ["%"] * 8)[:8]))
        for head in ("Picture", "pictures", "()", "*", "7", "picture "):
            self.bad(0, sealed([head] + lines[1:]))

    def test_checks(self):
        picture = busy_ledger().picture()
        body, _, told = picture.rpartition("\n")
        for wrong in ("", "0" + told, told + "0", told[:-1], str(int(told) + 1), str(int(told) + 65521), " " + told, told + " ", "-" + told, "()", "9" * 5000):
            self.bad(8, f"{body}\n{wrong}")

    def test_too_few_lines(self):
        lines = busy_ledger().picture().split("\n")
        self.bad(0, "")
        self.bad(0, "\n")
        for many in range(1, 9):
            self.bad(many, "\n".join(lines[:many]))
        # With a line feed behind the last line there is an empty line more.
        for many in range(1, 9):
            self.bad(many, "\n".join(lines[:many]) + "\n")

    def test_too_many_lines(self):
        picture = busy_ledger().picture()
        for rest in ("\n", "\nx", "\n" + picture.split("\n")[8], "\n\n\n", "\n" + picture):
            self.bad(9, picture + rest)
        self.bad(8, picture + "0\nx")

    def test_lines_exchanged_doubled_left_out(self):
        lines = busy_ledger().picture().split("\n")
        self.gives(len(set(lines)), 9)
        for at in range(9):
            for further in range(at + 1, 9):
                swapped = list(lines)
                swapped[at], swapped[further] = lines[further], lines[at]
                self.bad(0 if at == 0 else 8, "\n".join(swapped))
            self.bad(9 if at == 8 else 8, "\n".join(lines[:at + 1] + lines[at:]))
            self.bad(0 if at == 0 else 8, "\n".join(lines[:at] + lines[at + 1:]))

    def test_order_of_errors(self):
        ledger = made("Ledger", START)
        for number in range(200):
            ledger.do(("back", number))
        ledger.force()
        picture, line = ledger.picture(), log_text(((None, ("back", 0)),))
        for text in ("", "x\n", line, line + "x\n"):
            self.bad(8, picture[:-1], text)
            self.bad(9, picture + "\n", text)
        self.raises("BadLog", {"line": 1}, come_up, picture, line + "x\n")
        self.raises("BadLog", {"line": 0}, come_up, picture, "\n" + line)
        self.raises("TooMany", {"limit": 200}, come_up, picture, line)
        self.gives(up(picture, "").force(), 200)
        self.gives(up(picture, line[:-1]).force(), 200)
        fewer = made("Ledger", START)
        for number in range(150):
            fewer.do(("back", number))
        fewer.force()
        self.gives(up(fewer.picture(), line * 50).force(), 200)
        self.raises("TooMany", {"limit": 200}, come_up, fewer.picture(), line * 51)
        self.raises("TooMany", {"limit": 200}, come_up, made("Ledger", START).picture(), line * 201)


class ComeUp(Checked):
    def test_texts_cut_at_each_sign(self):
        first, text = made("Ledger", START).picture(), busy_ledger().text()
        entries = read_log(text)
        ledgers = []
        for many in range(len(entries) + 1):
            ledger = made("Ledger", START)
            for source, record in entries[:many]:
                ledger.do(record, source)
            ledger.force()
            ledgers.append(ledger)
        for at in range(len(text) + 1):
            many = text[:at].count("\n")
            came = come_up(first, text[:at])
            self.gives((came.answers(), came.text(), state(came.fair())), (ledgers[many].answers(), ledgers[many].text(), state(ledgers[many].fair())))

    def test_all_are_forced(self):
        ledger = busy_ledger()
        came = up(made("Ledger", START).picture(), ledger.text())
        self.gives((came.answers(), came.text(), came.force()), (ledger.answers(), ledger.text(), 9))
        came.do(("back", 5))
        self.gives((came.answers(), came.text()), (ledger.answers(), ledger.text()))
        came.force()
        self.gives((len(came.answers()), came.text()), (10, ledger.text() + log_text(((None, ("back", 5)),))))

    def test_drawn(self):
        """[J6]: of each picture, and each beginning of what was forced behind it."""
        chance, some = random.Random(123), 0
        for _ in range(14):
            ledger, beside = drawn_ledger(chance, 0)
            pictures = [(ledger.picture(), 0)]
            for _ in range(chance.randint(4, 16)):
                step(chance, ledger, beside)
                if chance.random() < 0.25:
                    pictures.append((ledger.picture(), beside.forced))
                    beside.pictured = beside.forced
            self.same(ledger, beside)
            ends = [many for _, many in pictures[1:]] + [beside.forced]
            for (picture, begin), end in zip(pictures, ends):
                text = log_text(tuple(beside.entries[begin:end]))
                cut = text[:chance.randint(0, len(text))] if chance.random() < 0.6 else text
                came = up(picture, cut)
                whole = made("Ledger", beside.fair.at(0))
                for source, record in beside.entries[:begin + cut.count("\n")]:
                    whole.do(record, source)
                whole.force()
                self.alike(came, whole)
                self.gives(came.text(), cut[:cut.rfind("\n") + 1])
                self.goes_on(chance, came, whole)
                some += begin > 0
        self.gives(some > 15, True)

    def goes_on(self, chance, came, whole):
        """Both ledgers do the same from now on, also behind further pictures."""
        for _ in range(3):
            record = drawn_record(chance, whole.fair())
            self.gives(came.do(record, (1, 7)), whole.do(record, (1, 7)))
            self.alike(came, whole)
        came.force()
        whole.force()
        self.alike(came, whole)
        self.alike(up(came.picture(), ""), whole)

    def test_one_behind_another(self):
        chance = random.Random(124)
        for _ in range(8):
            ledger, beside = drawn_ledger(chance, 0)
            for _ in range(6):
                for _ in range(2):
                    step(chance, ledger, beside)
                ledger.force()
                beside.forced = len(beside.entries)
                picture = ledger.picture()
                step(chance, ledger, beside)
                ledger.force()
                beside.forced, beside.pictured = len(beside.entries), len(beside.entries) - 1
                ledger = up(picture, ledger.text())
                self.same(ledger, beside)

    def test_groups_are_there_whole(self):
        first = made("Ledger", START).picture()
        text = log_text(((None, ("come", ONE, None)), (None, ("come", OTHER, None))))
        for at in range(len(text) + 1):
            events = come_up(first, text[:at]).fair().events
            self.gives(len(events), 2 if at == len(text) else 0)

    def test_two_ledgers_of_one_picture(self):
        picture = busy_ledger().picture()
        one, other = up(picture, ""), up(picture, "")
        one.do(("come", WAITS, None), (1, 2))
        self.gives((one.heard(1), other.heard(1), len(other.fair().pool)), (3, 2, 2))


if __name__ == "__main__":
    unittest.main()
