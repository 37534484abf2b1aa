"""Tests of onlywith.shells: [L1]."""

import random
import unittest

from onlywith.errors import WithError
from onlywith.fairs import Fair
from onlywith.questions import answers
from onlywith.shells import Shell
from onlywith.wishtexts import read_wish, wish_text
from pools import drawn_wish
from support import ANY, Case, made

WORDS = ("wish", "till", "back", "do", "ask", "facts", "waiting", "events")
SCHEMA_LINE = "store day/1 seat/2/0 tag/2/0"


class Checked(Case):
    def says(self, shell, *pairs):
        """The lines of the pairs (line, answer), in order."""
        for line, answer in pairs:
            self.gives((line, shell.say(line)), (line, answer))

    def begun(self, *lines):
        """A shell with the relations of drawn wishes, which was told lines."""
        shell = made("Shell")
        self.says(shell, (SCHEMA_LINE, "ok"))
        for line in lines:
            shell.say(line)
        return shell

    def whole(self, shell):
        """All that a shell tells of its fair."""
        return [shell.say(line) for line in ("facts", "waiting", "events")]

    def nothing_changes(self, shell, *pairs):
        before = self.whole(shell)
        self.says(shell, *pairs)
        self.gives(self.whole(shell), before)


class Forms(Checked):
    def test_what(self):
        lines = ["", " ", "  ", "\n", "x", "Store", "stores", "store ", "wishes", "fact", "facts ", "facts x", " facts", "facts\n", "\nfacts", "waiting ", "waiting 1", "events ",
                 "events events", "none", "ok", "what", "store\n", "store\tday/1", "wish", "till", "back", "do", "ask", "wish\n", "do\nx", "?", "no fair", "do+day(1)", "wishif day(?d)"]
        shell = self.begun()
        self.nothing_changes(shell, *[(line, "what") for line in lines])

    def test_no_strings(self):
        for shell in (made("Shell"), self.begun()):
            for value in [value for value in ANY if not isinstance(value, str)] + [["facts"], ("facts",), b"facts", None, True, {"facts": 1}]:
                self.gives(shell.say(value), "what")

    def test_any_string(self):
        for shell in (made("Shell"), self.begun()):
            for value in [value for value in ANY if isinstance(value, str)]:
                self.gives(shell.say(value), "what")

    def test_no_fair(self):
        shell = made("Shell")
        for word in WORDS:
            for rest in ("", " ", " x", "  ", " if day(1)", " 3", " 3 if day(1)", " \n", " " + "x" * 19000):
                self.gives(shell.say(word + rest), "no fair")
            for line in (word + "s", " " + word, word.upper(), word + "\n", word + "\n x", word + "\tx", word[:-1], "x " + word):
                self.gives(shell.say(line), "what")
        self.says(shell, ("store day/0", "error BadStore"), ("facts", "no fair"), ("store x", "what"), ("wish", "no fair"), ("store", "ok"), ("facts", "none"), ("wish", "what"))

    def test_figure_numbers(self):
        right = ("0", "1", "9", "10", "1000000000", "9999999999")
        wrong = ("", "00", "01", "0123456789", "10000000000", "12345678901", "-1", "+1", " 1", "1 ", "1.0", "1e3", "0x1", "a", "1a", "a1", "1_0", "1\n", "\n1", "9" * 5000, "0" * 5000, "(1)", "1 1", "?d")
        for figures in right:
            shell = self.begun()
            self.says(shell, (f"back {figures}", "error NotWaiting"), (f"till {figures} if day(?d) want x()", "wish 0"), (f"store day/{figures}", "ok" if figures == "1" else "error BadStore"))
        for figures in wrong:
            shell = self.begun()
            # The columns 1 and 0 are told as they have to be.
            columns = "error BadStore" if figures == "1.0" else "what"
            self.nothing_changes(shell, (f"back {figures}", "what"), (f"store day/{figures}", "what"), (f"store day/1/{figures}", columns), (f"store day/2/0.{figures}", columns))
            if figures not in ("1 ", "1 1"):
                self.nothing_changes(shell, (f"till {figures} if day(?d) want x()", "what"))

    def test_blanks(self):
        shell = self.begun()
        self.nothing_changes(
            shell, ("back  0", "what"), ("back 0 ", "what"), (" back 0", "what"), ("till  2 if day(1)", "what"), ("till 2", "what"), ("till 2 ", "error BadText"),
            ("till 2  if day(1)", "error BadText"), ("wish ", "error BadText"), ("wish  if day(1)", "error BadText"), ("wish if day(1) ", "error BadText"),
            ("do ", "error BadText"), ("do  +day(1)", "error BadText"), ("do +day(1) ", "error BadText"), ("ask ", "error BadText"), ("ask  if day(1)", "error BadText"),
            ("store  day/1", "what"), ("store day/1 ", "what"), ("store day/1  seat/1", "what"), ("store day /1", "what"),
        )


class Stores(Checked):
    def test_relations(self):
        long = " ".join(f"{name}/1" for name in "abcdefgh")
        right = ("store", "store day/1", "store day/6", "store day/1/0", "store day/6/0.1.2.3.4.5", "store day/3/0.2 seat/2", "store abcdefghijkl/2", "store " + long)
        for line in right:
            self.says(made("Shell"), (line, "ok"), ("facts", "none"), ("waiting", "none"), ("events", "none"))
        bad = ("store day/0", "store day/7", "store day/1/1", "store day/2/1.0", "store day/2/0.0", "store seat/1 day/1", "store day/1 day/1", "store " + long + " i/1", "store day/9999999999", "store day/1/9999999999")
        wrong = ("store day", "store day/", "store day/1/", "store /1", "store Day/1", "store day1/1", "store abcdefghijklm/1", "store day/1/0/0", "store day/1/0.", "store day/1/.0", "store day/2/0..1",
                 "store day/2/0,1", "store day/x", "store day/1/x", "store day/-1", "store day/01", "store day/1/00", "store day/1,seat/1", "store day/1\n", "store day/1/0 x", "store x day/1", "store day(1)", "store day/1;seat/1")
        for lines, answer in ((bad, "error BadStore"), (wrong, "what")):
            for line in lines:
                self.says(made("Shell"), (line, answer), ("facts", "no fair"))
                self.nothing_changes(self.begun("do +day(1)", "wish if day(2)"), (line, answer))

    def test_what_comes_ahead_of_bad_store(self):
        self.says(made("Shell"), ("store seat/1 day/1 x", "what"), ("store x seat/1 day/1", "what"))

    def test_new_fair(self):
        shell = self.begun("do +day(1)", "wish if day(2)", "wish if day(1)")
        self.says(shell, ("facts", "day(1)"), ("waiting", "0"), ("events", "plain 1 / done 2 1 () ()"), ("store seat/2/0", "ok"), ("facts", "none"), ("waiting", "none"), ("events", "none"))
        self.says(shell, ("do +day(1)", "error Unfit"), ("do +seat(1, 2)", "version 1"), ("do +seat(1, 3)", "error Refused"), ("wish if day(2)", "error BadWish"), ("wish if seat(9, 9)", "wish 0"))

    def test_keys(self):
        shell = made("Shell")
        self.says(shell, ("store pair/2/1 seat/2/0.1 way/2", "ok"), ("do +pair(1, x), +seat(1, x), +way(1, x)", "version 1"), ("do +pair(2, x)", "error Refused"),
                  ("do +pair(1, y)", "version 2"), ("do +seat(1, y)", "version 3"), ("do +way(1, y)", "version 4"), ("facts", "pair(1, x) / pair(1, y) / seat(1, x) / seat(1, y) / way(1, x) / way(1, y)"))


class Wishes(Checked):
    def test_wish(self):
        shell = self.begun("do +day(1), +day(2)")
        self.says(shell, ("wish if day(?d) say a(?d) want b(?d) do +seat(?d, x)", "wish 0"), ("waiting", "0"), ("wish if day(?d), ?d != 1 say b(?d) want a(?d)", "wish 1"),
                  ("waiting", "none"), ("facts", "day(1) / day(2) / seat(2, x)"), ("events", "plain 1 / done 2 0 (2) (1) / done 2 1 (2) (0)"))

    def test_till(self):
        shell = self.begun()
        self.says(shell, ("till 0 if day(1)", "wish 0"), ("till 1 if day(1)", "wish 1"), ("till 9999999999 if day(1)", "wish 2"), ("waiting", "1 2"), ("do +tag(1, 1)", "version 1"),
                  ("waiting", "2"), ("events", "alone 0 0 / plain 1 / alone 1 1"), ("do +day(1)", "version 2"), ("events", "alone 0 0 / plain 1 / alone 1 1 / plain 2 / done 3 2 () ()"))

    def test_back(self):
        shell = self.begun("wish if day(1)", "wish if day(1)")
        self.says(shell, ("waiting", "0 1"), ("back 1", "ok"), ("waiting", "0"), ("back 1", "error NotWaiting"), ("back 2", "error NotWaiting"), ("back 0", "ok"), ("waiting", "none"), ("events", "back 0 1 / back 0 0"))

    def test_errors(self):
        shell = self.begun("do +day(1)")
        self.nothing_changes(
            shell, ("wish if way(?d)", "error BadWish"), ("wish if day(?d, ?e)", "error BadWish"), ("wish if day(?d) do +way(?d)", "error BadWish"), ("wish if day(?d) do +day(?d, 1)", "error BadWish"),
            ("wish if day(?d", "error BadText"), ("wish x", "error BadText"), ("wish if way(?d", "error BadText"), ("till 0 if way(?d)", "error BadWish"), ("till 0 x", "error BadText"),
            ("wish if day(?d) want x(?e)", "error BadText"), ("wish if day(?d.1)", "error BadText"), ("wish if day(?d)\n", "error BadText"), ("till 1 if day(1)\n", "error BadText"),
        )
        for number in range(12):
            self.says(shell, ("wish if day(?d) want x()", f"wish {number}"))
        self.nothing_changes(shell, ("wish if day(?d)", "error TooMany"), ("wish if way(?d)", "error BadWish"), ("wish if day(", "error BadText"), ("till 99 if day(1)", "error TooMany"))
        self.says(shell, ("till 1 if day(1)", "wish 12"), ("back 3", "ok"), ("wish if day(?d) do -day(?d)", "wish 13"), ("facts", "none"))

    def test_long_texts(self):
        shell = self.begun()
        self.nothing_changes(shell, ("wish " + "if " * 6000, "error BadText"), ("wish if day(" + "1" * 15000 + ")", "error BadText"), ("do " + "+day(1), " * 2000, "error BadText"))


class Dealings(Checked):
    def test_do(self):
        shell = self.begun()
        self.says(shell, ("do +day(2), +day(1)", "version 1"), ("facts", "day(1) / day(2)"), ("do -day(1), +day(3), +day(b), -day(9), -day(1), +day(3)", "version 2"), ("facts", "day(2) / day(3) / day(b)"),
                  ("do +day(2)", "version 3"), ("do -day(-5), +day(-1000000000)", "version 4"), ("facts", "day(-1000000000) / day(2) / day(3) / day(b)"),
                  ("events", "plain 1 / plain 2 / plain 3 / plain 4"))

    def test_order_of_facts(self):
        shell = self.begun()
        self.says(shell, ("do +tag(b, 1), +tag(a, 2), +tag(10, 3), +tag(9, 4), +seat(1, x), +day(z)", "version 1"), ("facts", "day(z) / seat(1, x) / tag(9, 4) / tag(10, 3) / tag(a, 2) / tag(b, 1)"))

    def test_errors(self):
        shell = self.begun("do +seat(1, x), +day(1)")
        self.nothing_changes(
            shell, ("do +day(?d)", "error BadText"), ("do day(1)", "error BadText"), ("do +day()", "error BadText"), ("do +day(1),+day(2)", "error BadText"), ("do +day(1), ", "error BadText"),
            ("do +day(01)", "error BadText"), ("do +day(1000000001)", "error BadText"), ("do +Day(1)", "error BadText"), ("do x", "error BadText"), ("do +day(1)\n", "error BadText"),
            ("do +day(1) want x()", "error BadText"), ("do " + ", ".join(["+day(1)"] * 7), "error BadText"), ("do +way(1)", "error Unfit"), ("do +day(1, 2)", "error Unfit"), ("do -seat(1)", "error Unfit"),
            ("do +way(1), +day(?d)", "error BadText"), ("do +day(2), -day(2)", "error Refused"), ("do +seat(1, y)", "error Refused"), ("do +seat(2, y), +seat(2, z)", "error Refused"), ("do +way(1), +seat(1, y)", "error Unfit"),
        )
        self.says(shell, ("do -seat(1, x), +seat(1, y)", "version 2"), ("do " + ", ".join(["+day(1)"] * 6), "version 3"))

    def test_version_is_that_of_the_dealing(self):
        shell = self.begun("wish if day(1)", "wish if day(2)")
        self.says(shell, ("do +day(1), +day(2)", "version 1"), ("events", "plain 1 / done 2 0 () () / done 3 1 () ()"), ("do +day(1)", "version 4"))

    def test_too_many(self):
        shell = self.begun()
        for number in range(0, 396, 6):
            self.gives(shell.say("do " + ", ".join(f"+tag({at}, 0)" for at in range(number, number + 6))), f"version {number // 6 + 1}")
        self.says(shell, ("do +day(1), +day(2), +day(3), +day(4)", "version 67"))
        self.nothing_changes(shell, ("do +day(5)", "error Refused"), ("wish if day(1) do +day(5)", "error TooMany"), ("wish if tag(?a, ?b) want x()", "error TooMany"))


class Asks(Checked):
    def test_ask(self):
        shell = self.begun("do +day(1), +day(2), +day(b), +seat(1, x), +seat(2, y)")
        self.says(shell, ("ask if day(?d)", "(1) / (2) / (b)"), ("ask if day(?d), 1 < ?d", "(2) / (b)"), ("ask if day(7)", "none"), ("ask if day(1)", "()"), ("ask if day(1), 1 = 2", "none"),
                  ("ask if seat(?s, ?w)", "(1, x) / (2, y)"), ("ask if seat(?w, ?a)", "(x, 1) / (y, 2)"), ("ask if day(?d), seat(?s, ?w), ?d < ?s", "(1, 2, y)"),
                  ("ask if day(?d), seat(?d, ?w)", "(1, x) / (2, y)"))

    def test_sayings_wants_and_writes_are_not_looked_at(self):
        shell = self.begun("do +day(1)")
        self.nothing_changes(shell, ("ask if day(?d) say x(?d) want y(?d) do +day(?d), -seat(?d, 1)", "(1)"), ("ask if day(?d) do +way(?d), -day(1, 2, 3)", "(1)"))

    def test_errors(self):
        shell = self.begun("do +day(1)")
        self.nothing_changes(
            shell, ("ask if way(?d)", "error BadWish"), ("ask if day(?d, ?e)", "error BadWish"), ("ask if day(?d), way(?d)", "error BadWish"), ("ask if way(?d", "error BadText"), ("ask day(?d)", "error BadText"),
            ("ask if day(?d) say", "error BadText"), ("ask if day(?d)\n", "error BadText"), ("ask if day(?d.1)", "error BadText"),
        )
        many = self.begun()
        for number in range(0, 48, 6):
            many.say("do " + ", ".join(f"+day({at})" for at in range(number, number + 6)))
        self.nothing_changes(many, ("ask if day(?a), day(?b)", "error TooMany"), ("ask if day(?a), day(?b), ?b < 41, ?a = 3", " / ".join(f"(3, {at})" for at in range(41))))


class Beside(Checked):
    """A shell beside a fair, for drawn lines."""

    def text_of(self, fair):
        def rows(some):
            return [str(one).replace("'", "").replace(",)", ")") for one in some]

        facts = " / ".join(name + row for (name, _), row in zip(fair.store[1], rows(row for _, row in fair.store[1])))
        events = " / ".join(" ".join(rows(event)) for event in fair.events)
        return [facts or "none", " ".join(str(number) for number, _ in fair.pool) or "none", events or "none"]

    def expected(self, fair, call):
        """The answer to a line, by the fair's call."""
        try:
            return call(fair)
        except WithError as error:
            return "error " + type(error).__name__

    def drawn(self, chance, fair):
        """A line, and what it does with a fair."""
        kind = chance.random()
        if kind < 0.45:
            value = drawn_wish(chance, "ab")
            text = wish_text(value)
            if chance.random() < 0.2:
                text = text.replace(chance.choice(("day", "?d", ")", "if", ",")), chance.choice(("way", "?e", "", " ", "seat")), 1)
            if chance.random() < 0.4:
                till = fair.version + chance.randint(0, 3)
                return f"till {till} {text}", lambda one: f"wish {one.come(read_wish(text), till)}"
            return f"wish {text}", lambda one: f"wish {one.come(read_wish(text))}"
        if kind < 0.6:
            number = chance.randint(0, 8)
            return f"back {number}", lambda one: one.back(number) or "ok"
        if kind < 0.85:
            writes = [chance.choice("+-") + chance.choice((f"day({chance.randint(0, 3)})", f"seat({chance.randint(0, 1)}, {chance.choice('ab')})", "tag(0, 0)")) for _ in range(chance.randint(1, 4))]
            return "do " + ", ".join(writes), lambda one: f"version {one.plain((one.version, (), self.change(writes)))}"
        text = wish_text(drawn_wish(chance, "a"))
        return f"ask {text}", lambda one: self.asked(one, text)

    def change(self, writes):
        """The change of writes in a text."""
        sides = []
        for sign in "-+":
            facts = {item for word, item in zip([write[0] for write in writes], read_wish("if a(1) do " + ", ".join("+" + write[1:] for write in writes))[3]) if word == sign}
            sides.append(tuple(sorted(((name, row) for _, name, row in facts), key=lambda fact: (fact[0], [(isinstance(item, str), item) for item in fact[1]]))))
        return tuple(sides)

    def asked(self, fair, text):
        rows = answers(fair.store, read_wish(text)[0])
        return " / ".join(str(row).replace("'", "").replace(",)", ")") for row in rows) or "none"

    def test_drawn(self):
        chance, found = random.Random(141), {}
        for _ in range(30):
            shell, fair = self.begun(), Fair(((("day", 1, ()), ("seat", 2, (0,)), ("tag", 2, (0,))), ()))
            for _ in range(15):
                line, call = self.drawn(chance, fair)
                expected = self.expected(fair, call)
                self.says(shell, (line, expected))
                self.gives(self.whole(shell), self.text_of(fair))
                key = line.split(" ")[0] + " " + ("row" if expected[:1] == "(" else expected.split(" ")[0])
                found[key] = found.get(key, 0) + 1
        for key in ("wish wish", "wish error", "till wish", "back ok", "back error", "do version", "do error", "ask none", "ask row"):
            self.gives((key, found.get(key, 0) > 5), (key, True))

    def test_side_by_side(self):
        one, other = self.begun(), made("Shell")
        one.say("do +day(1)")
        self.says(other, ("facts", "no fair"), ("store day/2", "ok"), ("facts", "none"), ("do +day(1, 2)", "version 1"))
        self.says(one, ("facts", "day(1)"), ("do +day(1, 2)", "error Unfit"))

    def test_made_without_arguments(self):
        with self.assertRaises(TypeError):
            Shell(3)


if __name__ == "__main__":
    unittest.main()
