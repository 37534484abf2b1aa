"""Tests of onlywith.doors: [K1] to [K4]."""

import random
import unittest

from faircalls import START, WAITS, day, on_day, put, state, wish, words
from onlywith.doors import Door, House
from onlywith.errors import WithError
from onlywith.ledgers import Ledger, come_up
from support import ANY, Case, Pair, made, steady

log_text = steady("logs", "log_text")

BAD = ("BadRecord", {})
ONE = wish(words("a"), words("b"), [("in", "seat", ("?d", "x"))])
OTHER = wish(words("b"), words("a"))
COME = ("come", WAITS, None)
HUGE = 10 ** 400 - 1


def house_of(store=START):
    return made("House", made("Ledger", store))


def up(picture, text):
    """The houses that come up of a picture and a text."""
    return made("House", Pair([come_up(picture, text), come_up(picture, text)]))


class Hear(Case):
    def test_answers(self):
        house = house_of()
        self.gives(house.hear((1, 0, ("come", ONE, None))), (1, 0, 0, ()))
        self.gives(house.hear((2, 0, ("back", 7))), (2, 0, ("error", "NotWaiting"), ()))
        done = (("done", 1, 0, (1,), (1,)), ("done", 1, 1, (1,), (0,)))
        self.gives(house.hear((2, 1, ("come", OTHER, None))), (2, 1, 1, done[1:]))
        self.gives(house.hear((1, 0, ("come", ONE, None))), (1, 0, 0, done[:1]))
        self.gives(house.hear((1, 1, ("plain", put(5)))), (1, 1, 2, done[:1]))
        self.gives(house.hear((1, 2, ("come", WAITS, 2))), (1, 2, 2, done[:1] + (("alone", 2, 2),)))
        self.gives(house.hear((1, 3, ("come", "x", None))), (1, 3, ("error", "BadWish"), done[:1] + (("alone", 2, 2),)))
        self.gives([house.hear((door, "ask")) for door in (1, 2, 3)], [(1, None, None, done[:1] + (("alone", 2, 2),)), (2, None, None, done[1:]), (3, None, None, ())])
        self.gives((house.ledger.force(), house.ledger.heard(1), house.ledger.heard(2)), (6, 4, 2))

    def test_every_answer_is_forced(self):
        house = house_of()
        for number in range(4):
            house.hear((1, number, COME))
            self.gives((len(house.ledger.answers()), house.ledger.text().count("\n")), (number + 1, number + 1))

    def test_early(self):
        house = house_of()
        for number in (1, 2, 9, HUGE):
            self.raises("Early", {"count": 0}, house.hear, (1, number, COME))
        self.gives(house.ledger.force(), 0)
        house.hear((1, 0, COME))
        house.hear((1, 1, COME))
        for number in (3, 4, HUGE):
            self.raises("Early", {"count": 2}, house.hear, (1, number, COME))
            self.raises("Early", {"count": 0}, house.hear, (2, number, COME))
        self.gives((house.ledger.force(), len(house.ledger.fair().pool)), (2, 2))

    def test_elder_letters(self):
        house = house_of()
        for number, record in enumerate((COME, ("back", 0), ("back", 0), COME)):
            house.hear((1, number, record))
        before = state(house.ledger.fair())
        back = ("back", 0, 0)
        for number, answer in enumerate((0, None, ("error", "NotWaiting"), 1)):
            for record in (COME, ("back", 1), ("plain", put(5)), ("come", "x", None)):
                self.gives(house.hear((1, number, record)), (1, number, answer, (back,)))
        self.gives((house.ledger.force(), state(house.ledger.fair())), (4, before))

    def test_a_door_takes_a_wish_of_another_one_back(self):
        house = house_of()
        house.hear((1, 0, COME))
        self.gives(house.hear((2, 0, ("back", 0))), (2, 0, None, ()))
        self.gives(house.hear((1, "ask")), (1, None, None, (("back", 0, 0),)))

    def test_plain_events_are_told_to_nobody(self):
        house = house_of()
        self.gives(house.hear((1, 0, ("plain", put(5)))), (1, 0, 1, ()))
        self.gives(house.hear((1, 1, ("plain", put(6)))), (1, 1, 2, ()))
        self.gives((house.hear((1, 2, ("come", on_day(5), None)))), (1, 2, 0, (("done", 3, 0, (), ()),)))

    def test_answers_that_look_like_numbers_of_wishes(self):
        # The version 0 of one door is the number of a wish of another one.
        house = house_of()
        house.hear((1, 0, ("come", wish(), None)))
        self.gives(house.hear((2, 0, ("plain", (0, (), ((), ()))))), (2, 0, 2, ()))
        house.hear((1, 1, COME))
        house.hear((1, 2, ("come", WAITS, 3)))
        self.gives(house.hear((2, 1, ("plain", (0, (), ((), ()))))), (2, 1, 3, ()))
        self.gives(len(house.hear((1, "ask"))[3]), 2)

    def test_wishes_that_came_by_no_letter(self):
        ledger = made("Ledger", START)
        for record in (("come", wish(), None), COME):
            ledger.do(record)
        ledger.force()
        house = made("House", ledger)
        self.gives(house.hear((0, "ask")), (0, None, None, ()))
        self.gives(house.hear((0, 0, ("back", 1))), (0, 0, None, ()))
        self.gives(house.hear((0, 1, ("come", wish(), None))), (0, 1, 2, (("done", 2, 2, (1,), ()),)))

    def test_no_letters(self):
        house = house_of()
        house.hear((1, 0, COME))
        wrong = ANY + [
            (1, 1), (1, "Ask"), (1, "ask", 0), ("ask",), ("ask", 1), [1, "ask"], (-1, "ask"), (True, "ask"), (False, "ask"), (None, "ask"), ("1", "ask"), (1, ["ask"]),
            [1, 1, COME], (1, 1, list(COME)), (1, 1, COME, ()), (-1, 0, COME), (1, -1, COME), (True, 1, COME), (1, True, COME), (1, False, COME), (False, 0, COME),
            (None, 0, COME), (1, None, COME), ("1", 0, COME), (1, "0", COME), (1, [0], COME), (1, 1, None), (1, 1, ("come", WAITS)), (1, 1, ("go", 1)),
            (1, 1, ("back", True)), (1, 1, ("back", [])), (1, 1, ("back", "a b")), (1, 0, 0, ()), (1, 1, (1, 1)),
        ]
        for value in wrong:
            self.raises(*BAD, house.hear, value)
        # Wrong records come ahead of all else, also for elder and for early letters.
        for number in (0, 1, 2, HUGE):
            for record in (None, ("back", True), ("come", WAITS), list(COME)):
                self.raises(*BAD, house.hear, (1, number, record))
        self.gives(house.ledger.force(), 1)

    def test_two_hundred_entries(self):
        house = house_of()
        for number in range(200):
            self.gives(house.hear((number % 3, number // 3, ("back", 5)))[2], ("error", "NotWaiting"))
        self.raises("TooMany", {"limit": 200}, house.hear, (0, 67, COME))
        self.raises("TooMany", {"limit": 200}, house.hear, (7, 0, COME))
        self.raises("Early", {"count": 67}, house.hear, (0, 68, COME))
        self.gives(house.hear((0, 66, COME)), (0, 66, ("error", "NotWaiting"), ()))
        self.gives((house.hear((7, "ask")), house.ledger.force()), ((7, None, None, ()), 200))

    def test_great_numbers(self):
        house = house_of()
        self.gives(house.hear((HUGE, 0, COME)), (HUGE, 0, 0, ()))
        self.gives(house.hear((HUGE, "ask")), (HUGE, None, None, ()))
        self.raises("Early", {"count": 1}, house.hear, (HUGE, HUGE, COME))

    def test_ledger(self):
        ledger = Ledger(START)
        house = House(ledger=ledger)
        self.assertIs(house.ledger, ledger)
        with self.assertRaises(AttributeError):
            house.ledger = ledger


class Doors(Case):
    def test_send(self):
        door = made("Door", 3)
        records = [COME, None, [1], "x", ("back", True), {"a": 1}] + ANY
        sent = [door.send(record) for record in records]
        self.gives(sent, [(3, number, record) for number, record in enumerate(records)])
        self.gives((door.letters(), door.ask(), door.number, door.replies, door.told), (tuple(sent), (3, "ask"), 3, (), ()))

    def test_hear(self):
        door = made("Door", 3)
        for _ in range(3):
            door.send(COME)
        self.gives([door.hear((3, 1, 5, ())), door.hear((3, 1, 5, ())), door.hear((3, 1, 6, ()))], [True, False, False])
        self.gives((door.replies, [letter[1] for letter in door.letters()]), (((1, 5),), [0, 2]))
        self.gives([door.hear((3, 0, None, ())), door.hear((3, 0, None, ())), door.hear((3, 0, 1, ()))], [True, False, False])
        self.gives(door.hear((3, 2, ["any", {}], ("x",))), True)
        self.gives((door.replies, door.letters(), door.told), (((0, None), (1, 5), (2, ["any", {}])), (), ("x",)))
        self.gives((door.send(COME)[1], len(door.letters())), (3, 1))

    def test_events_more_fewer_and_as_many(self):
        door = made("Door", 0)
        door.send(COME)
        steps = (
            ((0, None, None, ()), False, ()), ((0, None, None, ("a",)), True, ("a",)), ((0, None, None, ("b",)), False, ("a",)), ((0, None, None, ()), False, ("a",)),
            ((0, 0, 7, ("c",)), True, ("a",)), ((0, 0, 7, ("c", [])), True, ("c", [])), ((0, None, None, (None, None)), False, ("c", [])),
            ((0, 0, 8, (1, 2, 3)), True, (1, 2, 3)), ((0, 0, 7, ("c", [])), False, (1, 2, 3)),
        )
        for value, found, told in steps:
            self.gives((door.hear(value), door.told), (found, told))
        self.gives(door.replies, ((0, 7),))

    def test_no_answer_letters(self):
        for number in (0, 1):
            door = made("Door", number)
            other = 1 - number
            for _ in range(2):
                door.send(COME)
            door.hear((number, 0, 5, ("a",)))
            wrong = ANY + [
                (number, 0, 5), (number, 0, 5, (), ()), [number, 0, 5, ()], (other, 0, 5, ()), (other, None, None, ()), (bool(number), 0, 5, ()), (str(number), 0, 5, ()),
                (None, 0, 5, ()), ([number], 0, 5, ()), (number, 2, 5, ()), (number, -1, 5, ()), (number, True, 5, ()), (number, False, 5, ()), (number, "0", 5, ()),
                (number, [0], 5, ()), (number, HUGE, 5, ()), (number, 0, 5, []), (number, 0, 5, None), (number, 0, 5, "ab"), (number, 0, 5, {}), (number, None, 5, ()),
                (number, None, (), ()), (number, None, False, ()), (number, None, 0, ()), (number, None, None, []), (number, None, None, None), (number, None, None),
                door.ask(), door.letters()[0], (number, 0),
            ]
            for value in wrong:
                self.raises(*BAD, door.hear, value)
            self.gives((door.replies, door.told, len(door.letters())), (((0, 5),), ("a",), 1))

    def test_nothing_was_sent(self):
        door = made("Door", 4)
        self.gives((door.letters(), door.replies, door.told), ((), (), ()))
        self.raises(*BAD, door.hear, (4, 0, 5, ()))
        self.gives((door.hear((4, None, None, ())), door.hear((4, None, None, (1,))), door.told), (False, True, (1,)))

    def test_properties_can_only_be_read(self):
        door = Door(number=3)
        for name in ("number", "replies", "told"):
            before = getattr(door, name)
            with self.assertRaises(AttributeError):
                setattr(door, name, 7)
            self.gives(getattr(door, name), before)

    def test_doors_side_by_side(self):
        one, other = made("Door", 1), made("Door", 2)
        one.send(COME)
        self.gives((other.letters(), other.send(None), len(one.letters())), ((), (2, 0, None), 1))


def drawn_record(chance):
    """A record that a door could send."""
    kind = chance.random()
    if kind < 0.6:
        words_told = "abc"
        says, wants = [[(chance.choice(words_told), ()) for _ in range(chance.choice((0, 1, 1)))] for _ in range(2)]
        return ("come", wish(says, wants, [("in", "seat", ("?d", "x"))] if chance.random() < 0.3 else []), chance.choice((None, None, 2, 4)))
    if kind < 0.8:
        return ("back", chance.randint(0, 6))
    return ("plain", (0, (), ((), day(chance.randint(1, 9)))))


class Post(Case):
    """Doors and a house, with letters that are lost, doubled, late, and in any order."""

    def test_drawn(self):
        for seed in range(12):
            self.run_post(random.Random(seed), falls=False)

    def test_houses_that_fall(self):
        for seed in range(12):
            self.run_post(random.Random(100 + seed), falls=True)

    def run_post(self, chance, falls):
        self.chance, self.house = chance, house_of()
        self.kept = (house_of().ledger.picture(), "")
        self.doors = [made("Door", number) for number in (0, 1, 5)]
        self.sent = {0: [], 1: [], 5: []}
        # What is on its way to the house, and what on its way to a door.
        self.letters, self.answers = [], []
        for _ in range(40):
            door = chance.choice(self.doors)
            if chance.random() < 0.3 and len(self.sent[door.number]) < 8:
                record = drawn_record(chance)
                self.sent[door.number].append(record)
                self.letters.append(door.send(record))
            elif chance.random() < 0.3:
                self.letters.append(door.ask())
            self.letters += [letter for letter in door.letters() if chance.random() < 0.4]
            self.deliver()
            if falls and chance.random() < 0.15:
                self.fall()
        self.letters += [(0, 99, COME)]
        for _ in range(60):
            for door in self.doors:
                self.letters += list(door.letters()) + [door.ask()]
            self.deliver()
        self.check()

    def deliver(self):
        """Some letters and answers come, in any order; some are lost, some come later once more."""
        self.letters = self.chance.sample(self.letters, len(self.letters))[:30]
        for letter in self.letters[:6]:
            if self.chance.random() < 0.8:
                try:
                    self.answers.append(self.house.hear(letter))
                except WithError as error:
                    self.gives((type(error).__name__, error.count), ("Early", self.house.ledger.heard(letter[0])))
                    self.gives(letter[1] > error.count, True)
                if self.chance.random() < 0.3:
                    self.kept = (self.kept[0], self.house.ledger.text())
                    if self.chance.random() < 0.3:
                        self.kept = (self.house.ledger.picture(), "")
        self.letters = self.letters[6:] + [letter for letter in self.letters[:6] if self.chance.random() < 0.2]
        self.chance.shuffle(self.answers)
        doors = {door.number: door for door in self.doors}
        for answer in self.answers[:6]:
            if self.chance.random() < 0.8:
                doors[answer[0]].hear(answer)
        self.answers = self.answers[6:] + [answer for answer in self.answers[:6] if self.chance.random() < 0.2]

    def fall(self):
        """The house falls and comes up of all that was forced."""
        picture, text = self.kept[0], self.house.ledger.text()
        before = self.house.ledger.answers(), state(self.house.ledger.fair())
        self.house = up(picture, text + self.chance.choice(("", "(", "(*, (back, 0)) 4")))
        self.gives((self.house.ledger.answers(), state(self.house.ledger.fair())), before)

    def check(self):
        """Each letter was done once, in the order of its door, and all is told to the doors."""
        ledger = self.house.ledger
        again = Ledger(START)
        counts = {0: 0, 1: 0, 5: 0}
        owners = {}
        for (door, number), word, answer in ledger.answers():
            self.gives((number, word), (counts[door], self.sent[door][number][0]))
            counts[door] += 1
            self.gives(again.do(self.sent[door][number], (door, number)), answer)
            if word == "come" and type(answer) is int:
                owners[answer] = door
        self.gives(state(again.fair()), state(ledger.fair()))
        for door in self.doors:
            self.gives(door.letters(), ())
            self.gives(counts[door.number], len(self.sent[door.number]))
            own = [answer for (number, _), _, answer in ledger.answers() if number == door.number]
            self.gives(door.replies, tuple(enumerate(own)))
            events = tuple(event for event in ledger.fair().events if event[0] != "plain" and owners[event[2]] == door.number)
            self.gives(door.told, events)


class Falls(Case):
    def test_cut_anywhere(self):
        """[K3]: a house that comes up has heard the letters whose entries are left, and no others."""
        house, first = house_of(), house_of().ledger.picture()
        letters = [(1, 0, ("come", ONE, None)), (2, 0, COME), (2, 1, ("come", OTHER, None)), (1, 1, ("back", 1)), (1, 2, ("plain", put(7)))]
        answers = [house.hear(letter) for letter in letters]
        text = house.ledger.text()
        for at in range(len(text) + 1):
            came = House(come_up(first, text[:at]))
            left = text[:at].count("\n")
            heard = {door: len([letter for letter in letters[:left] if letter[0] == door]) for door in (1, 2)}
            self.gives([came.ledger.heard(door) for door in (1, 2, 3)], [heard[1], heard[2], 0])
            if at % 9 == 0 or text[at - 1:at] == "\n":
                for letter, answer in zip(letters, answers):
                    self.gives(came.hear(letter)[:3], answer[:3])
                self.gives((came.ledger.answers(), state(came.ledger.fair())), (house.ledger.answers(), state(house.ledger.fair())))

    def test_picture_and_text(self):
        house = house_of()
        house.hear((1, 0, ("come", ONE, None)))
        picture = house.ledger.picture()
        self.gives(house.hear((2, 0, ("come", OTHER, None)))[2], 1)
        came = up(picture, house.ledger.text())
        self.gives(came.hear((1, 0, COME)), (1, 0, 0, (("done", 1, 0, (1,), (1,)),)))
        self.gives(came.hear((2, "ask")), (2, None, None, (("done", 1, 1, (1,), (0,)),)))
        lost = up(picture, house.ledger.text()[:-1])
        self.gives((lost.hear((1, "ask")), lost.ledger.heard(2)), ((1, None, None, ()), 0))
        self.raises("Early", {"count": 0}, lost.hear, (2, 1, COME))
        self.gives(lost.hear((2, 0, ("come", OTHER, None))), (2, 0, 1, (("done", 1, 1, (1,), (0,)),)))
        self.gives(lost.ledger.text(), log_text((((2, 0), ("come", OTHER, None)),)))


if __name__ == "__main__":
    unittest.main()
