"""Doors and letters: wishes come to one house from doors, by letters that may be lost ([K1] to [K4])."""

from onlywith.errors import BadRecord, Early
from onlywith.logs import is_count, is_record
from onlywith.terms import is_integer, is_tuple

# The second item of an ask.
ASK = "ask"


def is_ask(value):
    """Whether any value is an ask ([K1])."""
    return is_tuple(value, 2) and is_count(value[0]) and value[1] == ASK


def is_letter(value):
    """Whether any value is a letter ([K1])."""
    return is_tuple(value, 3) and is_count(value[0]) and is_count(value[1]) and is_record(value[2])


def answer_to(answers, source):
    """The answer of the entry with a source, by the answers of a ledger."""
    return [answer for told, _, answer in answers if told == source][0]


def events_of(events, answers, door):
    """Those of a fair's events that are of a wish that came by a letter of a door."""
    own = {
        answer: True for source, word, answer in answers
        if source is not None and source[0] == door and word == "come" and is_integer(answer)
    }
    return tuple([event for event in events if event[0] != "plain" and event[2] in own])


class House:
    """Hears letters, has each done once by its ledger, and answers them ([K2])."""

    def __init__(self, ledger):
        self._ledger = ledger

    @property
    def ledger(self):
        """The ledger."""
        return self._ledger

    def hear(self, value):
        """The answer letter to a letter or an ask, which may be any value."""
        if is_ask(value):
            return self._letter(value[0], None)
        if not is_letter(value):
            raise BadRecord()
        door, number, record = value
        count = self._ledger.heard(door)
        if number > count:
            raise Early(count)
        if number == count:
            self._ledger.do(record, (door, number))
            self._ledger.force()
        return self._letter(door, number)

    def _letter(self, door, number):
        """The answer letter for a door, to the letter of a number or, if this is None, to an ask."""
        answers = self._ledger.answers()
        answer = None if number is None else answer_to(answers, (door, number))
        return (door, number, answer, events_of(self._ledger.fair().events, answers, door))


class Door:
    """Sends letters, and hears the answers to them ([K4])."""

    def __init__(self, number):
        self._number = number
        self._sent = []
        # {number of a letter: its answer}
        self._answers = {}
        self._told = ()

    @property
    def number(self):
        """The number of the door."""
        return self._number

    @property
    def replies(self):
        """The pairs (number, answer) heard, ascending by the numbers."""
        return tuple([(number, self._answers[number]) for number in sorted(self._answers)])

    @property
    def told(self):
        """The longest events heard so far."""
        return self._told

    def send(self, record):
        """The next letter, with any value as its record."""
        letter = (self._number, len(self._sent), record)
        self._sent.append(letter)
        return letter

    def letters(self):
        """The letters sent for which no answer was heard, in order."""
        return tuple([letter for letter in self._sent if letter[1] not in self._answers])

    def ask(self):
        """The ask of this door."""
        return (self._number, ASK)

    def hear(self, value):
        """Whether an answer letter, any value, tells an answer or more events that were not heard yet."""
        if not self._is_answer(value):
            raise BadRecord()
        _, number, answer, events = value
        new = number is not None and number not in self._answers
        if new:
            self._answers[number] = answer
        more = len(events) > len(self._told)
        if more:
            self._told = events
        return new or more

    def _is_answer(self, value):
        """Whether any value is an answer letter of this door, to an ask or to a letter that it sent."""
        if not is_tuple(value, 4) or not is_integer(value[0]) or value[0] != self._number:
            return False
        _, number, answer, events = value
        if number is None:
            return answer is None and isinstance(events, tuple)
        return is_count(number) and number < len(self._sent) and isinstance(events, tuple)
