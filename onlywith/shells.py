"""Shells: fairs that are told what to do by lines of text ([L1])."""

from onlywith.errors import BadWish, WithError
from onlywith.fairs import Fair
from onlywith.questions import answers, question_error
from onlywith.terms import is_word
from onlywith.wishes import writes_of
from onlywith.wishtexts import FIGURES, call_text, read_wish

# The most figures of a figure number.
MAX_FIGURES = 10

# The first words of lines that need a fair.
WORDS = ("wish", "till", "back", "do", "ask", "facts", "waiting", "events")

# What stands between things that are told, and what stands for none of them.
BETWEEN = " / "
NONE = "none"

# What is told of a line that has no form of a line, or for which there is no fair.
WHAT = "what"
NO_FAIR = "no fair"


def is_figure_number(text):
    """Whether a text is a figure number."""
    if not 1 <= len(text) <= MAX_FIGURES or not all([sign in FIGURES for sign in text]):
        return False
    return text == "0" or text[0] != "0"


def relation_of(text):
    """The relation, as a shell is told it, perhaps with wrong numbers; None if the text has not its form."""
    name, *figures = text.split("/")
    if not is_word(name) or len(figures) not in (1, 2):
        return None
    columns = figures[1].split(".") if len(figures) == 2 else []
    if not all([is_figure_number(one) for one in figures[:1] + columns]):
        return None
    return (name, int(figures[0]), tuple([int(column) for column in columns]))


def item_text(item):
    """The text of an item of an event."""
    return call_text("", item) if isinstance(item, tuple) else str(item)


def row_of(texts, between):
    """The texts with something between two of them; "none" if there are none."""
    return between.join(texts) if texts else NONE


class Shell:
    """Does what lines tell it, on a fair of its own."""

    def __init__(self):
        self._fair = None

    def say(self, line):
        """The answer to a line, which may be any value."""
        if not isinstance(line, str):
            return WHAT
        word, blank, rest = line.partition(" ")
        if word != "store" and word not in WORDS:
            return WHAT
        try:
            if word == "store":
                return self._begin(line)
            if self._fair is None:
                return NO_FAIR
            return self._told(word, rest) if blank else self._listed(word)
        except WithError as error:
            return "error " + error.__class__.__name__

    def _begin(self, line):
        """Begins a new fair, by a line whose first word is "store"."""
        relations = [relation_of(text) for text in line.split(" ")[1:]]
        if None in relations:
            return WHAT
        self._fair = Fair((tuple(relations), ()))
        return "ok"

    def _listed(self, word):
        """The answer to a line of one word."""
        if word == "facts":
            return row_of([call_text(name, row) for name, row in self._fair.store[1]], BETWEEN)
        if word == "waiting":
            return row_of([str(number) for number, _ in self._fair.pool], " ")
        if word == "events":
            return row_of([" ".join([item_text(item) for item in event]) for event in self._fair.events], BETWEEN)
        return WHAT

    def _told(self, word, rest):
        """The answer to a line with a rest behind its first word and a blank."""
        if word == "wish":
            return self._come(rest, None)
        if word == "do":
            return self._plain(rest)
        if word == "ask":
            return self._ask(rest)
        figures, blank, text = rest.partition(" ")
        if word == "till" and blank and is_figure_number(figures):
            return self._come(text, int(figures))
        if word == "back" and is_figure_number(rest):
            self._fair.back(int(rest))
            return "ok"
        return WHAT

    def _come(self, text, till):
        """Lets the wish of a text come."""
        number = self._fair.come(read_wish(text), till)
        return f"wish {number}"

    def _plain(self, text):
        """Does the writes of a text."""
        # The body has no variables, so there are none in the writes, and () is its filling.
        change = writes_of(read_wish("if a(1) do " + text), ())
        version = self._fair.plain((self._fair.version, (), change))
        return f"version {version}"

    def _ask(self, text):
        """Tells the answers of the body of a wish's text."""
        body = read_wish(text)[0]
        error = question_error(self._fair.store[0], body)
        if error is not None:
            raise BadWish(error)
        return row_of([call_text("", row) for row in answers(self._fair.store, body)], BETWEEN)
