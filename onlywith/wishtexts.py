"""The texts of wishes ([C4])."""

from onlywith.bounds import (
    MAX_NUMBER, MAX_PATTERNS, MAX_SAYINGS, MAX_TESTS, MAX_WANTS, MAX_WIDTH, MAX_WORD, MAX_WRITES,
)
from onlywith.errors import BadText
from onlywith.questions import SIGNS, question_variables
from onlywith.terms import MAX_LETTERS

LETTERS = "abcdefghijklmnopqrstuvwxyz"
FIGURES = "0123456789"

# {sign of a write: how its text begins}
MARKS = {"in": "+", "out": "-"}

# The first words of the parts behind the body, in their order.
PARTS = ("say", "want", "do")


def call_text(word, pattern):
    """The text of a pattern with its name, of a saying or a want."""
    return word + "(" + ", ".join([str(term) for term in pattern]) + ")"


def wish_text(wish):
    """The text of a well made quadruple ([C4])."""
    (patterns, tests), sayings, wants, writes = wish
    parts = (
        ("if", [call_text(*item) for item in patterns] + [f"{one} {sign} {other}" for sign, one, other in tests]),
        ("say", [call_text(*item) for item in sayings]),
        ("want", [call_text(*item) for item in wants]),
        ("do", [MARKS[sign] + call_text(name, pattern) for sign, name, pattern in writes]),
    )
    return " ".join([word + " " + ", ".join(items) for word, items in parts if items])


class Reader:
    """A text that is read sign by sign, as far as some text of a wish begins so.

    Each method raises BadText with the place of the first sign with which none goes on.
    """

    def __init__(self, text):
        self.text = text
        self.at = 0
        # The variables that may come; None as long as any one may.
        self.variables = None

    def comes(self, signs):
        """Whether the next sign is one of signs."""
        return self.at < len(self.text) and self.text[self.at] in signs

    def take(self, text):
        """Reads just this text."""
        for sign in text:
            if not self.comes(sign):
                raise BadText(self.at)
            self.at += 1

    def letters(self, most):
        """Reads 1 to most letters, as many as there are."""
        begin = self.at
        while self.at < begin + most and self.comes(LETTERS):
            self.at += 1
        if self.at == begin:
            raise BadText(begin)
        return self.text[begin:self.at]

    def whole(self):
        """Reads a number."""
        begin = self.at
        if self.comes("-"):
            self.at += 1
        elif self.comes("0"):
            self.at += 1
            return 0
        # No number but 0 itself begins with a nought.
        if not self.comes(FIGURES[1:]):
            raise BadText(self.at)
        first = self.at
        while self.comes(FIGURES) and int(self.text[first:self.at + 1]) <= MAX_NUMBER:
            self.at += 1
        return int(self.text[begin:self.at])

    def known_variable(self):
        """Reads one of the variables that may come."""
        begin = self.at
        while self.at < len(self.text) and self.is_begun(self.text[begin:self.at + 1]):
            self.at += 1
        found = self.text[begin:self.at]
        if found not in self.variables:
            raise BadText(self.at)
        return found

    def is_begun(self, text):
        """Whether one of the variables that may come begins with a text."""
        return any([variable.startswith(text) for variable in self.variables])

    def term(self):
        """Reads a term."""
        if self.comes("?") and self.variables is not None:
            return self.known_variable()
        if self.comes("?"):
            self.take("?")
            return "?" + self.letters(MAX_LETTERS)
        if self.comes(LETTERS):
            return self.letters(MAX_WORD)
        return self.whole()

    def pattern(self, least):
        """Reads the terms of a pattern, and what is around them; least is 0 or 1."""
        self.take("(")
        if least == 0 and self.comes(")"):
            self.take(")")
            return ()
        terms = [self.term()]
        while self.comes(",") and len(terms) < MAX_WIDTH:
            self.take(", ")
            terms.append(self.term())
        self.take(")")
        return tuple(terms)

    def test(self, one):
        """Reads the rest of a test behind its first term."""
        self.take(" ")
        for sign in SIGNS:
            if self.comes(sign[0]):
                self.take(sign + " ")
                return (sign, one, self.term())
        raise BadText(self.at)

    def body(self):
        """Reads the body; behind it only its variables may come."""
        self.take("if ")
        patterns, tests = [(self.letters(MAX_WORD), self.pattern(1))], []
        while self.comes(",") and len(tests) < MAX_TESTS:
            self.take(", ")
            # A word may be the name of a pattern or the first term of a test.
            word = self.letters(MAX_WORD) if self.comes(LETTERS) else None
            if word is not None and self.comes("(") and not tests and len(patterns) < MAX_PATTERNS:
                patterns.append((word, self.pattern(1)))
                continue
            self.variables = question_variables((patterns, ()))
            tests.append(self.test(self.term() if word is None else word))
        self.variables = question_variables((patterns, ()))
        return (tuple(patterns), tuple(tests))

    def item(self, part):
        """Reads an item of a part behind the body."""
        if part != "do":
            return (self.letters(MAX_WORD), self.pattern(0))
        for sign in MARKS:
            if self.comes(MARKS[sign]):
                self.take(MARKS[sign])
                return (sign, self.letters(MAX_WORD), self.pattern(1))
        raise BadText(self.at)

    def part(self, part):
        """Reads a part behind the body, from its first word on."""
        most = {"say": MAX_SAYINGS, "want": MAX_WANTS, "do": MAX_WRITES}[part]
        self.take(part + " ")
        found = [self.item(part)]
        while self.comes(",") and len(found) < most:
            self.take(", ")
            found.append(self.item(part))
        return tuple(found)

    def further(self):
        """Reads the parts behind the body, up to the end of the text."""
        found = {part: () for part in PARTS}
        coming = list(PARTS)
        while coming and self.at < len(self.text):
            self.take(" ")
            while coming and not self.comes(coming[0][0]):
                coming = coming[1:]
            if not coming:
                raise BadText(self.at)
            found[coming[0]] = self.part(coming[0])
            coming = coming[1:]
        if self.at < len(self.text):
            raise BadText(self.at)
        return (found["say"], found["want"], found["do"])


def read_wish(value):
    """The well made quadruple of which any value is the text ([C4])."""
    if not isinstance(value, str):
        raise BadText(0)
    reader = Reader(value)
    body = reader.body()
    return (body,) + reader.further()
