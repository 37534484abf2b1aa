"""Ledgers: records that are done on a fair and kept, so that they can be done again ([J3] to [J6])."""

from onlywith.bounds import MAX_RECORDS
from onlywith.errors import BadPicture, BadRecord, TooMany, WithError
from onlywith.fairs import Fair, fair_of, parts_of
from onlywith.logs import MAX_DEEP, check_of, is_entry, log_text, plain_text, read_log, read_plain
from onlywith.terms import is_integer

# The first line of a picture.
HEAD = "picture"

# Behind it come the plain texts of a fair's parts and of the answers; this line is the last one, their check.
LAST_LINE = 8


def done(fair, record):
    """The answer to a record, which is done on a fair."""
    try:
        if record[0] == "come":
            return fair.come(record[1], record[2])
        if record[0] == "back":
            return fair.back(record[1])
        return fair.plain(record[1])
    except WithError as error:
        return ("error", error.__class__.__name__)


class Ledger:
    """A fair, and the entries of the records that were done on it."""

    def __init__(self, store):
        self._fair = Fair(store)
        # The fair behind the last forced entry.
        self._safe = self._fair.copy()
        # The triples (source, word, answer) of all entries, and how many of these are forced.
        self._answers = []
        self._forced = 0
        # The entries that are in no picture, and how many others there are.
        self._entries = []
        self._pictured = 0

    def do(self, record, source=None):
        """Does a record, any value, and keeps it; returns the answer."""
        if not is_entry((source, record)):
            raise BadRecord()
        if len(self._answers) >= MAX_RECORDS:
            raise TooMany(MAX_RECORDS)
        answer = done(self._fair, record)
        self._entries.append((source, record))
        self._answers.append((source, record[0], answer))
        return answer

    def force(self):
        """Makes all entries forced; returns how many there are."""
        self._safe = self._fair.copy()
        self._forced = len(self._answers)
        return self._forced

    def answers(self):
        """The triples (source, word, answer) of the forced entries, in order."""
        return tuple(self._answers[:self._forced])

    def heard(self, door):
        """How many entries have a source with a door, which may be any value."""
        if not is_integer(door):
            return 0
        return len([source for source, _, _ in self._answers if source is not None and source[0] == door])

    def text(self):
        """The log of the forced entries that are in no picture."""
        return log_text(tuple(self._entries[:self._forced - self._pictured]))

    def fair(self):
        """A copy of the fair behind all entries."""
        return self._fair.copy()

    def picture(self):
        """The picture of the forced entries ([J4])."""
        self._entries = self._entries[self._forced - self._pictured:]
        self._pictured = self._forced
        values = parts_of(self._safe) + (self.answers(),)
        text = "\n".join([HEAD] + [plain_text(value) for value in values])
        return f"{text}\n{check_of(text)}"


def read_picture(text):
    """The parts of a fair and the answers that a picture tells; BadPicture where it is none."""
    lines = text.split("\n")
    if lines[0] != HEAD:
        raise BadPicture(0)
    values = []
    for place, line in enumerate(lines[1:LAST_LINE], start=1):
        try:
            values.append(read_plain(line, MAX_DEEP))
        except BadRecord:
            raise BadPicture(place) from None
    if len(lines) > LAST_LINE and lines[LAST_LINE] != str(check_of("\n".join(lines[:LAST_LINE]))):
        raise BadPicture(LAST_LINE)
    if len(lines) != LAST_LINE + 1:
        raise BadPicture(min(len(lines), LAST_LINE + 1))
    return tuple(values[:-1]), values[-1]


def come_up(picture, text):
    """The ledger that a picture tells, with the entries of a text done behind it ([J5])."""
    parts, answers = read_picture(picture)
    entries = read_log(text)
    ledger = Ledger(parts[0])
    ledger._fair = fair_of(parts)
    ledger._answers = list(answers)
    ledger._pictured = len(answers)
    for source, record in entries:
        ledger.do(record, source)
    ledger.force()
    return ledger
