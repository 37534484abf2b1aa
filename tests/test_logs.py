"""Tests of onlywith.logs: [J1], [J2]."""

import random
import unittest

from onlywith.ledgers import Ledger
from pools import drawn_wish
from support import ANY, Case, nested, steady

entry_line = steady("logs", "entry_line")
read_line = steady("logs", "read_line")
log_text = steady("logs", "log_text")
read_log = steady("logs", "read_log")

BAD = ("BadRecord", {})
LETTERS = "abcdefghijklmnopqrstuvwxyzABCDEFGHIJKLMNOPQRSTUVWXYZ0123456789?.=!<"
ALL = "".join(chr(code) for code in range(32, 127)) + "\n"


def check(text):
    value = 1
    for sign in text:
        value = (31 * value + ord(sign)) % 65521
    return value


def line(text):
    """A text with its check behind it, whatever it is."""
    return f"{text} {check(text)}"


def back(value):
    return (None, ("back", value))


def deep(many, value=()):
    """So many tuples one within another; the innermost one is the value."""
    for _ in range(many - 1):
        value = (value,)
    return value


def plain_value(value, levels):
    """Whether a value is a plain one, as the document tells it."""
    if value is None:
        return True
    if type(value) is tuple:
        return levels > 0 and all(plain_value(item, levels - 1) for item in value)
    if type(value) is int:
        return abs(value) < 10 ** 400
    return type(value) is str and 0 < len(value) < 41 and value[0] not in "0123456789" and all(sign in LETTERS for sign in value)


ENTRIES = [
    (None, ("back", 0)), (None, ("back", -7)), (None, ("back", None)), (None, ("back", ())), (None, ("back", "a")), (None, ("back", "None")),
    ((0, 0), ("back", 10 ** 9)), ((12, 345), ("come", (), None)), ((1, 1), ("come", ((("day", ("?d",)),), ()), -3)), (None, ("plain", (0, (), ((), ())))),
    (None, ("come", (((("day", ("?d",)),), (("!=", "?d", 3), ("<", "?d", "?d"), ("=", 1, 2))), (), (), ()), None)),
    ((10 ** 400 - 1, 10 ** 400 - 1), ("back", 1 - 10 ** 400)), (None, ("plain", "BadText")), (None, ("back", "come")),
    (None, ("back", ((((),),), ()))), (None, ("come", "?.=!<", "<5")),
]


class Lines(Case):
    def both(self, entry, text):
        self.gives(entry_line(entry), line(text))
        self.gives(read_line(line(text)), entry)

    def test_entries(self):
        for entry in ENTRIES:
            self.gives(read_line(entry_line(entry)), entry)
        self.gives(len({entry_line(entry) for entry in ENTRIES}), len(ENTRIES))

    def test_texts(self):
        self.both((None, ("back", None)), "(*, (back, *))")
        self.both((None, ("back", ())), "(*, (back, ()))")
        self.both((None, ("back", (5,))), "(*, (back, (5)))")
        self.both(((0, 12), ("come", (-7, "Aa0?.=!<", (None, ((),))), -10)), "((0, 12), (come, (-7, Aa0?.=!<, (*, (()))), -10))")
        self.gives((check("a"), check("ab")), (128, 4066))

    def test_strings(self):
        for text in ("a", "Z", "z9", "?", ".", "=", "!", "<", "!=", "?day.12", "a" * 40, "A" + "9" * 39, "TooMany"):
            self.both(back(text), f"(*, (back, {text}))")
        for text in ("a" * 41, "9a", "", "a b", "a-b", "a_b", "a*", "**", "-", "--1", "+1", "a,", "%", "'a'", "\"a\"", "a\n", "{", "a:", "/", "&", "a>"):
            self.raises(*BAD, read_line, line(f"(*, (back, {text}))"))
        for sign in ALL:
            value = "x" + sign
            if sign in LETTERS:
                self.both(back(value), f"(*, (back, {value}))")
            else:
                self.raises(*BAD, read_line, line(f"(*, (back, {value}))"))

    def test_integers(self):
        for number in (0, 1, -1, 10, 10 ** 9 + 1, 10 ** 399, 10 ** 400 - 1, 1 - 10 ** 400):
            self.both(back(number), f"(*, (back, {number}))")
        for text in ("00", "01", "-0", "-01", "-", "--1", "+1", "1-", "1.0", "1e3", "0x1", "1_0", "1" * 401, "-" + "1" * 401, "1" * 4301, "1" * 5000, "-" + "9" * 15000, "0" * 4000):
            self.raises(*BAD, read_line, line(f"(*, (back, {text}))"))

    def test_depth(self):
        for value in (deep(20), deep(20, (1, "a")), deep(20, (None,))):
            self.gives(read_line(entry_line(back(value))), back(value))
            self.gives(read_line(entry_line((None, ("come", value, value)))), (None, ("come", value, value)))
        for many in (21, 22, 23, 100, 1000, 5000):
            text = "(" * many + ")" * many
            self.raises(*BAD, read_line, line(f"(*, (back, {text}))"))
            self.raises(*BAD, read_line, line(f"(*, (come, (), {text}))"))
            self.raises(*BAD, read_line, line(f"(*, (back, {'(' * many}))"))
            self.raises(*BAD, read_line, line(text))
        wide = (deep(19), deep(19), 3)
        self.gives(read_line(entry_line(back(wide))), back(wide))
        self.raises(*BAD, read_line, line("(*, (back, (3, " + "(" * 20 + ")" * 20 + ")))"))

    def test_records_and_sources(self):
        right = ("(*, (come, a, b))", "(*, (plain, *))", "((5, 0), (back, *))")
        wrong = (
            "(*, (come, a))", "(*, (come, a, b, c))", "(*, (back))", "(*, (back, a, b))", "(*, (plain, a, b))", "(*, (plain))", "(*, (go, a))",
            "(*, (Back, a))", "(*, ())", "(*, a)", "(*, *)", "(*, (*, a))", "(*, (1, a))", "(*, ((back), a))", "(*)", "()", "*", "a", "7", "",
            "(*, (back, a), *)", "(a, (back, a))", "(1, (back, a))", "((1), (back, a))", "((1, 2, 3), (back, a))", "((-1, 2), (back, a))",
            "((1, -2), (back, a))", "((1, *), (back, a))", "((a, 1), (back, a))", "(((1), 1), (back, a))", "((), (back, a))", "((back, a), *)",
            "((" + "1" * 401 + ", 1), (back, a))", "((1, " + "1" * 401 + "), (back, a))",
        )
        for text in right:
            self.gives(entry_line(read_line(line(text))), line(text))
        for text in wrong:
            self.raises(*BAD, read_line, line(text))

    def test_blanks_and_commas(self):
        for text in ("(*,(back, 1))", "(*,  (back, 1))", "( *, (back, 1))", "(* , (back, 1))", "(*, (back, 1) )", " (*, (back, 1))", "(*, (back, 1)) ",
                     "(*, (back 1))", "(*, (back, 1)", "(*, (back, 1)))", "*, (back, 1)", "(*, (back,, 1))", "(*, (back, 1, ))", "(*, (back, 1,))", "(, (back, 1))",
                     "(*, (back, (1, )))", "(*, (back, (, 1)))", "(*, (back, ( )))", "(*, (back, 1))x", "(*, (back, 1)()", "(*, (back, 1))(*, (back, 1))",
                     "(*, (back, 1 ))", "(*, (back, a(1)))", "(*, (back, (1)2))", "(*; (back; 1))", "[*, [back, 1]]"):
            self.raises(*BAD, read_line, line(text))

    def test_checks(self):
        text = "(*, (back, 0))"
        self.gives(read_line(text + " 49843"), back(0))
        for end in ("49844", "49842", "049843", "-49843", "+49843", "49843 ", " 49843", "49843\n", "4984", "498430", "", "0", "x", "115364", "49843.0", "49_843", "9" * 5000):
            self.raises(*BAD, read_line, text + " " + end)
        for whole in (text, text + "49843", text + "\t49843", text + "\n49843", "49843", " 49843", "49843 " + text):
            self.raises(*BAD, read_line, whole)

    def test_no_strings(self):
        for value in ANY:
            self.raises(*BAD, read_line, value)
        for value in ([entry_line(back(0))], (entry_line(back(0)),), back(0), None, True, 0):
            self.raises(*BAD, read_line, value)

    def test_one_sign_otherwise(self):
        """Each line with one sign changed, put in or taken out, at each place: the check tells it."""
        for entry in ENTRIES[:11]:
            text = entry_line(entry)
            for at in range(len(text) + 1):
                for sign in "a0(), *-\n":
                    for value in (text[:at] + sign + text[at:], text[:at] + sign + text[at + 1:]):
                        if value != text:
                            self.raises(*BAD, read_line, value)
                if at < len(text):
                    self.raises(*BAD, read_line, text[:at] + text[at + 1:])

    def test_one_sign_otherwise_with_its_check(self):
        """What is read with a right check is the line of what was read."""
        chance, found = random.Random(111), {True: 0, False: 0}
        for _ in range(4000):
            text = entry_line(chance.choice(ENTRIES[:11])).rpartition(" ")[0]
            for _ in range(chance.choice((1, 1, 2))):
                at = chance.randrange(len(text))
                sign = chance.choice(("", "a", "0", "7", "(", ")", ", ", " ", "*", "-", "?", "()", "B"))
                text = text[:at] + sign + text[at + chance.choice((0, 1)):]
            try:
                entry = read_line(line(text))
            except ValueError:
                found[False] += 1
            else:
                found[True] += 1
                self.gives(entry_line(entry), line(text))
        self.gives(min(found.values()) > 300, True)

    def test_drawn_wishes(self):
        chance = random.Random(112)
        for number in range(60):
            entry = ((number, number), ("come", drawn_wish(chance, "abc"), chance.choice((None, number))))
            self.gives(read_line(entry_line(entry)), entry)


class Logs(Case):
    def test_text(self):
        self.gives(log_text(()), "")
        self.gives(log_text(tuple(ENTRIES)), "".join(entry_line(entry) + "\n" for entry in ENTRIES))
        self.gives(read_log(log_text(tuple(ENTRIES))), tuple(ENTRIES))

    def test_cut_at_each_sign(self):
        entries = tuple(ENTRIES[:9])
        text = log_text(entries)
        for at in range(len(text) + 1):
            self.gives(read_log(text[:at]), entries[:text[:at].count("\n")])

    def test_what_stands_behind_the_last_line_feed(self):
        text = log_text(tuple(ENTRIES[:2]))
        for rest in ("x", "(*, (back, 0))", entry_line(back(0)), " ", "(" * 5000, "9" * 5000):
            self.gives(read_log(text + rest), tuple(ENTRIES[:2]))
            self.gives(read_log(rest), ())

    def test_first_wrong_line(self):
        lines = [entry_line(entry) for entry in ENTRIES[:6]]
        for wrong in ("", " ", "x", lines[0] + " ", lines[0][:-1], "(*, (back, 0))", line("(*, (back))"), lines[0] + "\r", "\t"):
            for at in range(7):
                for further in ([], ["x"]):
                    text = "".join(one + "\n" for one in lines[:at] + [wrong] + lines[at:] + further)
                    self.raises("BadLog", {"line": at}, read_log, text)
        self.raises("BadLog", {"line": 0}, read_log, "\n")
        self.raises("BadLog", {"line": 1}, read_log, lines[0] + "\n\n")

    def test_one_sign_otherwise(self):
        entries = tuple(ENTRIES[:4])
        text = log_text(entries)
        for at, sign in enumerate(text):
            place = text[:at].count("\n")
            for new in "x0) ":
                if new != sign:
                    changed = text[:at] + new + text[at + 1:]
                    if at == len(text) - 1:
                        # The last line has no line feed any more.
                        self.gives(read_log(changed), entries[:3])
                    else:
                        self.raises("BadLog", {"line": place}, read_log, changed)
            if sign != "\n":
                self.raises("BadLog", {"line": place}, read_log, text[:at] + "\n" + text[at + 1:])


class Values(Case):
    """What is told to be plain, by records of ledgers."""

    def test_kinds(self):
        values = ANY + [deep(20), deep(21), deep(1000), 10 ** 400, -10 ** 400, nested("a", 20), (True,), ([],), ("a b",), ("",), "a" * 40, "a" * 41, None]
        found = {True: 0, False: 0}
        for value in values:
            ledger = Ledger(((), ()))
            right = plain_value(value, 20)
            found[right] += 1
            for record in (("back", value), ("plain", value), ("come", value, None), ("come", (), value)):
                if right:
                    answer = ledger.do(record)
                    self.gives(answer[0], "error")
                else:
                    self.raises(*BAD, ledger.do, record)
            self.gives(ledger.force(), 4 if right else 0)
            self.gives([entry[1][1] for entry in read_log(ledger.text())][:2], [value] * 2 if right else [])
        self.gives(min(found.values()) > 20, True)


if __name__ == "__main__":
    unittest.main()
