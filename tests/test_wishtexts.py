"""Tests of onlywith.wishtexts: [C4]."""

import random
import re
import unittest

from onlywith.errors import BadText
from support import ANY, Case, steady

wish_text = steady("wishtexts", "wish_text")
read_wish = steady("wishtexts", "read_wish")
question_variables = steady("questions", "question_variables")

TERM = r"(?:[a-z]{1,12}|\?[a-z]{1,3}|0|-?[1-9][0-9]{0,9})"
CALL = r"[a-z]{1,12}\(" + TERM + "(?:, " + TERM + r"){0,5}\)"
SAYING = r"[a-z]{1,12}\((?:" + TERM + "(?:, " + TERM + r"){0,5})?\)"
TEST = TERM + " (?:=|!=|<) " + TERM


def items(item, most):
    """One to most items, as a text has them."""
    return item + "(?:, " + item + "){0," + str(most - 1) + "}"


WHOLE = re.compile(
    "if (?P<patterns>" + items(CALL, 6) + ")(?:, " + TEST + "){0,6}(?: say " + items(SAYING, 4) + ")?(?: want "
    + items(SAYING, 4) + ")?(?: do " + items("[+-]" + CALL, 6) + ")?"
)


def is_text(text):
    """Whether a string is the text of a well made quadruple, by its form, its numbers and its variables."""
    found = WHOLE.fullmatch(text)
    if not found or any(int(number) > 10 ** 9 for number in re.findall("[0-9]+", text)):
        return False
    variables = set(re.findall(r"\?[a-z]+", found["patterns"]))
    return set(re.findall(r"\?[a-z]+", text)) <= variables


ENDS = ["", ")", "1)", "(1)", "a(1)", "+a(1)", "(", " = 1", "= 1", " 1", "1", "a()", " a()", " +a(1)", " a(1)"]


def completions(text):
    """Texts that a beginning may go on to, if it can be the beginning of a text of a wish at all."""
    words = [word[at:] for word in ("if ", " say ", " want ", " do ", "!= ") for at in range(len(word))]
    variables = sorted({variable[at:] for variable in re.findall(r"\?[a-z]+", text) for at in range(1, len(variable))})
    for middle in [""] + words + variables + ["a", "1", "?a"]:
        for end in ENDS:
            yield text + middle + end


def can_begin(text):
    return any(is_text(whole) for whole in completions(text))


def place_of(value):
    """The place that BadText tells of a value; None if it is a text."""
    try:
        read_wish(value)
    except BadText as error:
        return error.place
    return None


def drawn_quadruple(chance):
    """Any well made quadruple."""
    names = ["if", "say", "want", "do", "a", "ab", "w" * 12, "seat", "z"]
    variables = chance.sample(["?a", "?ab", "?abc", "?b", "?do", "?if", "?say", "?zzz"], chance.randint(0, 4))
    values = [0, 1, -1, 7, 10 ** 9, -10 ** 9, 999999999, "a", "if", "x" * 12, "do", "say", "want"]

    def pattern(least, terms):
        return tuple(chance.choice(terms) for _ in range(chance.choice([least, 1, 2, 6])))

    patterns = tuple((chance.choice(names), pattern(1, variables * 2 + values)) for _ in range(chance.choice([1, 1, 2, 6])))
    terms = list(question_variables((patterns, ()))) * 3 + values
    tests = tuple((chance.choice(["=", "!=", "<"]), chance.choice(terms), chance.choice(terms))
                  for _ in range(chance.choice([0, 0, 1, 6])))
    sayings, wants = [tuple((chance.choice(names), pattern(0, terms)) for _ in range(chance.choice([0, 1, 2, 4]))) for _ in "sw"]
    writes = tuple((chance.choice(["in", "out"]), chance.choice(names), pattern(1, terms)) for _ in range(chance.choice([0, 1, 6])))
    return ((patterns, tests), sayings, wants, writes)


BODY = ((("day", ("?d", "?n")),), ())


class Texts(Case):
    def test_parts(self):
        self.gives(wish_text((BODY, (), (), ())), "if day(?d, ?n)")
        self.gives(wish_text((BODY, (("a", ()),), (), ())), "if day(?d, ?n) say a()")
        self.gives(wish_text((BODY, (), (("a", ("?d",)), ("b", ())), ())), "if day(?d, ?n) want a(?d), b()")
        self.gives(wish_text((BODY, (), (), (("out", "a", (1,)), ("in", "a", ("b", "?n"))))), "if day(?d, ?n) do -a(1), +a(b, ?n)")
        self.gives(wish_text(((BODY[0] * 2, (("<", "?d", -1), ("!=", "a", "?n"))), (), (), ())),
                   "if day(?d, ?n), day(?d, ?n), ?d < -1, a != ?n")

    def test_patterns_of_one_name_with_unlike_widths(self):
        value = (((("a", (1,)), ("a", (1, 2))), ()), (), (), (("in", "a", (1, 2, 3)),))
        self.gives(wish_text(value), "if a(1), a(1, 2) do +a(1, 2, 3)")
        self.gives(read_wish("if a(1), a(1, 2) do +a(1, 2, 3)"), value)

    def test_all_counts_at_their_bounds(self):
        row = ("?a", "?abc", "x" * 12, -10 ** 9, 10 ** 9, 0)
        call = ("w" * 12, row)
        value = (((call,) * 6, (("!=", "?abc", 10 ** 9),) * 6), (call,) * 4, (call,) * 4, (("in",) + call, ("out",) + call) * 3)
        text = wish_text(value)
        self.gives(read_wish(text), value)
        self.gives((text.count("("), text.count("!="), text.count("+"), text.count(" -w")), (20, 6, 3, 3))

    def test_drawn(self):
        chance = random.Random(5)
        texts = {}
        for _ in range(400):
            value = drawn_quadruple(chance)
            text = wish_text(value)
            self.gives(read_wish(text), value)
            self.gives(wish_text(read_wish(text)), text)
            self.gives(is_text(text), True)
            texts.setdefault(text, value)
            self.gives(texts[text], value)


class Places(Case):
    def fails(self, text, place):
        self.raises("BadText", {"place": place}, read_wish, text)

    def test_no_string(self):
        for value in ANY + [b"if a(1)", ["if a(1)"], ("if a(1)",)]:
            if not isinstance(value, str):
                self.fails(value, 0)

    def test_any_string(self):
        for value in ANY:
            if isinstance(value, str):
                self.fails(value, 0)

    def test_beginnings(self):
        for text, place in (
            ("", 0), ("i", 1), ("If a(1)", 0), ("if", 2), ("if  a(1)", 3), ("if\na(1)", 2), (" if a(1)", 0), ("if (1)", 3),
            ("if ?a(1)", 3), ("if 1(1)", 3), ("if a (1)", 4), ("if a(1", 6), ("if a(1))", 7), ("if a(1)\n", 7), ("if a(1) ", 8),
            ("if a(1)  say b()", 8), ("if a(1), ", 9), ("if a(1),b(1)", 8), ("if a(1) , b(1)", 8), ("if a(1 )", 6), ("if a( 1)", 5),
            ("if A(1)", 3), ("if a(A)", 5), ("if a(1) if b(1)", 8), ("if a(1).", 7),
        ):
            self.fails(text, place)

    def test_numbers(self):
        for text, place in (
            ("if a(-)", 6), ("if a(-0)", 6), ("if a(--1)", 6), ("if a(00)", 6), ("if a(01)", 6), ("if a(-01)", 6), ("if a(+1)", 5),
            ("if a(1000000001)", 14), ("if a(2000000000)", 14), ("if a(1000000000", 15), ("if a(10000000000)", 15),
            ("if a(-1000000001)", 15), ("if a(-1000000000", 16), ("if a(9999999999)", 14), ("if a(1.5)", 6), ("if a(1a)", 6),
            ("if a(1_0)", 6), ("if a(" + "9" * 19000 + ")", 14), ("if a(-" + "1" * 19000, 15), ("if a(" + "0" * 19000, 6),
        ):
            self.fails(text, place)
        for number in (0, 7, -7, 10 ** 9, -10 ** 9, 999999999, 10):
            self.gives(read_wish(f"if a({number})"), (((("a", (number,)),), ()), (), (), ()))

    def test_words(self):
        self.gives(read_wish("if " + "n" * 12 + "(" + "w" * 12 + ")")[0][0], (("n" * 12, ("w" * 12,)),))
        self.fails("if " + "n" * 13 + "(1)", 15)
        self.fails("if a(" + "w" * 13 + ")", 17)
        self.fails("if " + "n" * 19000, 15)
        self.fails("if a(1) say " + "n" * 13 + "()", 24)
        self.fails("if a(1), " + "n" * 13, 21)

    def test_variables(self):
        for text, place in (
            ("if a(?)", 6), ("if a(?abcd)", 9), ("if a(?A)", 6), ("if a(?a.1)", 7), ("if a(?1)", 6), ("if a(??a)", 6),
            ("if a(?ab) say b(?a)", 18), ("if a(?ab) say b(?abc)", 19), ("if a(?ab, ?a) say b(?abc)", 23), ("if a(?ab) want b(?b)", 18),
            ("if a(?ab) do +b(?b)", 17), ("if a(1), ?", 9), ("if a(1), b(?b), ?c = 1", 17), ("if a(?b), 1 = ?c", 15),
            ("if a(?ab, ?ac), ?a = 1", 18), ("if a(?abc), ?ab", 15), ("if a(1) say b(?", 14), ("if a(1) say b(?b), c(?b)", 14),
            ("if a(?b), ?b = 1, c(?c)", 19), ("if a(?a) say b(?a.1)", 17),
        ):
            self.fails(text, place)
        self.gives(read_wish("if a(?a, ?ab, ?abc), ?ab = ?abc say b(?a, ?ab)")[1], (("b", ("?a", "?ab")),))
        self.gives(read_wish("if a(1), b(?b), ?b = 1")[0][1], (("=", "?b", 1),))

    def test_tests(self):
        for text, place in (
            ("if a(1), 1", 10), ("if a(1), 1 ", 11), ("if a(1), 1 >", 11), ("if a(1), 1 !", 12), ("if a(1), 1 !1", 12),
            ("if a(1), 1 ==", 12), ("if a(1), 1 <=", 12), ("if a(1), 1 = ", 13), ("if a(1), 1=1", 10), ("if a(1), 1 =1", 12),
            ("if a(1), 1 = 1, b(1)", 17), ("if a(1), b = 1, b(1)", 17), ("if a(1), b  = 1", 11), ("if a(1), 1 = 1 = 1", 15),
            ("if a(1), 1(1)", 10), ("if 1 = 1, a(1)", 3), ("if a = 1, a(1)", 4), ("if a(1), (1)", 9),
        ):
            self.fails(text, place)

    def test_too_many(self):
        call, saying, test, write = "a(1)", "b()", "1 = 1", "+c(1)"
        row = ", ".join(["1"] * 6)
        for ahead, item, most, further in (
            ("if ", call, 6, ", 1 = 1"), ("if a(1), ", test, 6, " say b()"), ("if a(1) say ", saying, 4, " want b()"),
            ("if a(1) want ", saying, 4, " do +c(1)"), ("if a(1) do ", write, 6, ""), ("if a(", "1", 6, ")"),
        ):
            right = ahead + ", ".join([item] * most)
            self.gives(place_of(right + further) is None, True)
            # Behind all patterns a further name may still be the first term of a test.
            place = len(right) + 3 if item == call else len(right)
            self.fails(right + ", " + item + further, place)
        self.gives(place_of(f"if a({row}) say b({row}) want b({row}) do -c({row})"), None)
        for text in (f"if a({row}", f"if a(1) say b({row}", f"if a(1) want b({row}", f"if a(1) do -c({row}"):
            self.fails(text + ", 1)", len(text))

    def test_empty_patterns(self):
        self.gives(read_wish("if a(1) say b() want b()")[1:3], ((("b", ()),), (("b", ()),)))
        self.fails("if a()", 5)
        self.fails("if a(1), b()", 11)
        self.fails("if a(1) do +b()", 14)

    def test_order_of_parts(self):
        for text, place in (
            ("if a(1) want b() say c()", 17), ("if a(1) do +b(1) want c()", 16), ("if a(1) say b() say c()", 16),
            ("if a(1) want b() want c()", 17), ("if a(1) do +b(1) do +c(1)", 16), ("if a(1) say b(), c() say d()", 21),
            ("if a(1) say b(), +c(1)", 17), ("if a(1) do b(1)", 11), ("if a(1) do +b(1), c(1)", 18), ("if a(1) say", 11),
            ("if a(1) say ", 12), ("if a(1) sad b()", 10), ("if a(1) wont b()", 9), ("if a(1) to +b(1)", 8), ("if a(1) do  +b(1)", 11),
            ("if a(1) do + b(1)", 12), ("if a(1) do +b(1),", 17), ("if a(1) do +b(1), ", 18), ("if a(1) say b() ", 16), ("say b()", 0),
        ):
            self.fails(text, place)

    def test_names_like_the_words_of_parts(self):
        text = "if if(if, ?if), say(say), do = want, want != ?if say say(), want() want do(), if(do) do +do(do), -if(say)"
        self.gives(wish_text(read_wish(text)), text)

    def test_long_texts(self):
        text = "if a(1) do " + "+b(1), " * 2800
        self.fails(text, 11 + 7 * 6 - 2)
        self.fails("if a(1)" + " " * 19000, 8)
        self.fails("if a(" + "1, " * 6000, 21)
        self.fails("if a(?" + "a" * 19000, 9)

    def at_its_place(self, value):
        """BadText tells of a string a beginning that can go on, and no longer one can; or the string is a text."""
        place = place_of(value)
        self.gives(is_text(value), place is None)
        if place is not None:
            self.assertTrue(can_begin(value[:place]), (value, place))
            self.assertTrue(place == len(value) or not can_begin(value[:place + 1]), (value, place))
        return place

    def test_at_each_place(self):
        text = "if ab(?a, -10), ?a != if say do(?a), b() want c(0) do +d(?a), -e(x)"
        self.gives(place_of(text), None)
        for at in range(len(text)):
            self.gives(self.at_its_place(text[:at]) == at, not is_text(text[:at]))
            self.at_its_place(text[:at] + text[at + 1:])
            for sign in "a0? (),":
                self.at_its_place(text[:at] + sign + text[at:])
                self.at_its_place(text[:at] + sign + text[at + 1:])

    def test_one_sign_changed(self):
        chance = random.Random(11)
        some = 0
        for _ in range(400):
            text = wish_text(drawn_quadruple(chance))[:chance.choice([12, 25, 40, 90, 400])]
            at = chance.randrange(len(text) + 1)
            sign = chance.choice("abifsaywntdo?(), =!<+-0129A.\n")
            value = chance.choice([text, text[:at], text[:at] + sign + text[at:], text[:at] + sign + text[at + 1:],
                                   text[:at] + text[at + 1:], text + sign])
            some += self.at_its_place(value) is not None
        self.gives(some > 150, True)


if __name__ == "__main__":
    unittest.main()
