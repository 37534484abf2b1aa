"""Logs: records as lines of text, each with a check ([J1], [J2])."""

from onlywith.errors import BadLog, BadRecord
from onlywith.terms import is_integer, is_tuple

# How deep a plain value may be nested; an entry has two tuples more around it.
MAX_DEEP = 20
ENTRY_DEEP = MAX_DEEP + 2

# How many signs a plain string may have, and how many figures an integer.
MAX_SIGNS = 40
MAX_FIGURES = 400

# The least integer that has too many figures.
TOO_GREAT = (10 ** 40) ** 10

FIGURES = "0123456789"
SIGNS = "abcdefghijklmnopqrstuvwxyzABCDEFGHIJKLMNOPQRSTUVWXYZ0123456789?.=!<"

# The check of a text without signs, and what it is a remainder by.
FIRST_CHECK = 1
CHECKS = 65521

# {first item of a record: how many items it has}
RECORDS = {"come": 3, "back": 2, "plain": 2}


def is_plain_string(value):
    """Whether a string is a plain one ([J1])."""
    return 1 <= len(value) <= MAX_SIGNS and value[0] not in FIGURES and all([sign in SIGNS for sign in value])


def is_plain(value, deep):
    """Whether any value is a plain one ([J1]), nested at most so deep."""
    if isinstance(value, tuple):
        return deep > 0 and all([is_plain(item, deep - 1) for item in value])
    if isinstance(value, str):
        return is_plain_string(value)
    return value is None or is_integer(value) and -TOO_GREAT < value < TOO_GREAT


def is_count(value):
    """Whether any value is an integer from 0 on."""
    return is_integer(value) and value >= 0


def is_source(value):
    """Whether any value is a source ([J1])."""
    if value is None:
        return True
    return is_tuple(value, 2) and all([is_count(item) and item < TOO_GREAT for item in value])


def is_record(value):
    """Whether any value is a record ([J1])."""
    if not isinstance(value, tuple) or not value or not isinstance(value[0], str):
        return False
    return RECORDS.get(value[0], 0) == len(value) and all([is_plain(item, MAX_DEEP) for item in value[1:]])


def is_entry(value):
    """Whether any value is an entry ([J1])."""
    return is_tuple(value, 2) and is_source(value[0]) and is_record(value[1])


def plain_text(value):
    """The plain text of a plain value ([J2])."""
    if value is None:
        return "*"
    if isinstance(value, tuple):
        return "(" + ", ".join([plain_text(item) for item in value]) + ")"
    return str(value)


def check_of(text):
    """The check of a text ([J2])."""
    check = FIRST_CHECK
    for sign in text:
        check = (31 * check + ord(sign)) % CHECKS
    return check


def read_integer(text):
    """The integer of which a text is the plain text; BadRecord if there is none."""
    figures = text[1:] if text[:1] == "-" else text
    # The length is asked first, as Python refuses to read very many figures.
    if not 1 <= len(figures) <= MAX_FIGURES or not all([sign in FIGURES for sign in figures]):
        raise BadRecord()
    number = int(text)
    if str(number) != text:
        raise BadRecord()
    return number


def read_atom(text):
    """The plain value, no tuple, of which a text is the plain text; BadRecord if there is none."""
    if text == "*":
        return None
    if is_plain_string(text):
        return text
    return read_integer(text)


class PlainReader:
    """A plain text that is read sign by sign; BadRecord is raised where it is none."""

    def __init__(self, text):
        self.signs = text
        self.spot = 0

    def comes(self, text):
        """Whether just this text comes next."""
        return self.signs.startswith(text, self.spot)

    def skip(self, text):
        """Reads just this text."""
        if not self.comes(text):
            raise BadRecord()
        self.spot += len(text)

    def value(self, deep):
        """Reads a plain value, nested at most so deep."""
        if self.comes("("):
            return self.parts(deep)
        begin = self.spot
        while self.spot < len(self.signs) and self.signs[self.spot] not in ",()":
            self.spot += 1
        return read_atom(self.signs[begin:self.spot])

    def parts(self, deep):
        """Reads a tuple, nested at most so deep."""
        if deep == 0:
            raise BadRecord()
        self.skip("(")
        found = []
        while not self.comes(")"):
            if found:
                self.skip(", ")
            found.append(self.value(deep - 1))
        self.skip(")")
        return tuple(found)


def read_plain(text, deep):
    """The plain value, nested at most so deep, of which a text is the plain text; BadRecord if there is none."""
    reader = PlainReader(text)
    value = reader.value(deep)
    if reader.spot < len(text):
        raise BadRecord()
    return value


def entry_line(entry):
    """The line of an entry ([J2])."""
    text = plain_text(entry)
    return f"{text} {check_of(text)}"


def read_line(value):
    """The entry of which any value is the line ([J2])."""
    if not isinstance(value, str):
        raise BadRecord()
    text, _, check = value.rpartition(" ")
    if check != str(check_of(text)):
        raise BadRecord()
    entry = read_plain(text, ENTRY_DEEP)
    if not is_entry(entry):
        raise BadRecord()
    return entry


def log_text(entries):
    """The lines of a tuple of entries, each with a line feed behind it ([J2])."""
    return "".join([entry_line(entry) + "\n" for entry in entries])


def read_log(text):
    """The entries of the lines of a text that have a line feed behind them ([J2])."""
    entries = []
    for place, line in enumerate(text.split("\n")[:-1]):
        try:
            entries.append(read_line(line))
        except BadRecord:
            raise BadLog(place) from None
    return tuple(entries)
