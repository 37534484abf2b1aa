"""Tests of onlywith.fairs: [I6] to [I11]."""

import random
import unittest

from faircalls import DAY, NOTHING, START, WAITS, day, drawn_call, on_day, put, state, wish, words
from fairmodel import Model
from onlywith import errors
from onlywith.fairs import Fair
from pools import SCHEMA, drawn_store, drawn_wish
from support import ANY, Case, made, steady

no_holds = steady("papers", "no_holds")
first_group = steady("groups", "first_group")
store_error = steady("stores", "store_error")
wish_error = steady("wishes", "wish_error")
stands = steady("lots", "stands")
lot_change = steady("lots", "lot_change")
changed = steady("stores", "changed")

HUGE = 10 ** 400 - 1


class Checked(Case):
    """A fair beside a model of it."""

    def begin(self, store):
        fair, model = made("Fair", store), Model(store)
        self.same(fair, model)
        return fair, model

    def same(self, fair, model, paper=True):
        """All that can be asked is the same, and there is no group of those that wait."""
        self.gives(state(fair), model.state())
        for version in range(fair.version + 1):
            self.gives(fair.at(version), model.stores[version])
        if paper:
            self.gives(no_holds(fair.store, fair.pool, fair.paper()), True)

    def ask(self, fair, model, name, *values, paper=True):
        """The call does what it does with the model."""
        expected = model.call(name, *values)
        if expected[0] == "returns":
            self.gives(getattr(fair, name)(*values), expected[1])
        else:
            self.raises(expected[1], expected[2], getattr(fair, name), *values)
        self.same(fair, model, paper)
        return expected


class Drawn(Checked):
    def test_drawn(self):
        chance, found = random.Random(101), {}
        for _ in range(60):
            fair, model = self.begin(drawn_store(chance))
            for _ in range(16):
                call = drawn_call(chance, fair)
                expected = self.ask(fair, model, *call, paper=chance.random() < 0.3)
                told = (call[0],) + expected[:1] + ((expected[1],) if expected[0] == "raises" else ())
                found[told] = found.get(told, 0) + 1
            self.holds(fair, model)
        for told in (("come", "returns"), ("back", "returns"), ("plain", "returns"), ("plain", "raises", "Refused"), ("come", "raises", "BadWish"),
                     ("back", "raises", "NotWaiting"), ("plain", "raises", "Unfit"), ("at", "raises", "NoVersion")):
            self.gives(found.get(told, 0) > 10, True)

    def holds(self, fair, model):
        """[I11], of the events of a fair."""
        ends = [event[2] for event in fair.events if event[0] != "plain"]
        self.gives(len(ends), len(set(ends)))
        groups = {}
        for event in fair.events:
            if event[0] == "done":
                groups.setdefault(event[1], []).append(event)
        for version, events in groups.items():
            numbers = [event[2] for event in events]
            for event in events:
                self.gives(sorted(numbers), sorted((event[2],) + event[4]))
        self.gives(first_group(fair.store, fair.pool), None)

    def test_groups_stood_on_the_version_ahead(self):
        chance, many = random.Random(102), 0
        for _ in range(40):
            store = drawn_store(chance)
            fair, wishes = Fair(store), {}
            for _ in range(8):
                value = drawn_wish(chance, "ab")
                wishes[fair.come(value)] = value
            versions = sorted({event[1] for event in fair.events if event[0] == "done"})
            for version in versions:
                lot = tuple((event[2], event[3]) for event in fair.events if event[0] == "done" and event[1] == version)
                pool = tuple(sorted(wishes.items()))
                self.gives(stands(fair.at(version - 1), pool, lot), True)
                self.gives(changed(fair.at(version - 1), lot_change(pool, lot)), fair.at(version))
                many += len(lot) > 1
        self.gives(many > 10, True)

    def test_copies_and_attempts(self):
        chance, some = random.Random(103), 0
        for _ in range(25):
            pairs = [self.begin(drawn_store(chance))]
            for _ in range(14):
                fair, model = chance.choice(pairs)
                if len(pairs) < 4 and chance.random() < 0.2:
                    pairs.append((fair.copy(), model.copy()))
                    continue
                call = drawn_call(chance, fair)
                if call[0] != "at" and chance.random() < 0.5:
                    some += self.tried(chance, fair, model, [call, drawn_call(chance, fair)])
                else:
                    self.ask(fair, model, *call, paper=False)
            for fair, model in pairs:
                self.same(fair, model)
        self.gives(some > 15, True)

    def tried(self, chance, fair, model, calls):
        """Calls one behind another in one attempt; returns whether one of them raised."""
        trial = model.copy()
        outcomes = []
        for call in calls:
            outcomes.append(trial.call(*call))
            if outcomes[-1][0] == "raises":
                break

        def work(inner):
            return [getattr(inner, call[0])(*call[1:]) for call in calls]

        if outcomes[-1][0] == "raises":
            self.raises(outcomes[-1][1], outcomes[-1][2], fair.attempt, work)
        else:
            self.gives(fair.attempt(work), [result for _, result in outcomes])
            model.take(trial)
        self.same(fair, model, False)
        return outcomes[-1][0] == "raises"


class Begin(Checked):
    def test_begin(self):
        for store in (START, ((), ()), (SCHEMA, ()), (SCHEMA, day(*range(400)))):
            fair, _ = self.begin(store)
            self.gives(state(fair), (store, 0, (), (), (), 0))
            self.gives(fair.paper(), ((), ((), None)))

    def test_bad_store(self):
        for value in ANY + [(SCHEMA, day(2, 1)), (SCHEMA[::-1], ()), (SCHEMA, (("seat", (1, "a")), ("seat", (1, "b")))), (SCHEMA, day(*range(401)))]:
            error = store_error(value)
            if error is not None:
                self.raises("BadStore", {"error": error}, Fair, value)
                self.raises("BadStore", {"error": error}, lambda told: Fair(store=told), value)

    def test_properties_can_only_be_read(self):
        fair = Fair(START)
        for name in ("store", "version", "pool", "tills", "events", "asked"):
            before = getattr(fair, name)
            with self.assertRaises(AttributeError):
                setattr(fair, name, 3)
            with self.assertRaises(AttributeError):
                delattr(fair, name)
            self.gives(getattr(fair, name), before)

    def test_at(self):
        fair, model = self.begin(START)
        fair.plain(put(3))
        model.call("plain", put(3))
        for version in ANY + [-1, 0, 1, 2, True, False, HUGE, -HUGE, fair]:
            if type(version) is int and 0 <= version < 2:
                self.gives(fair.at(version), model.stores[version])
            elif version is not fair:
                self.raises("NoVersion", {"given": version}, fair.at, version)
        self.same(fair, model)


class Come(Checked):
    def test_bad_wish_comes_ahead_of_unfit(self):
        fair, model = self.begin(START)
        for value in ANY + [WAITS[:3], (DAY, (), (), (("in", "day", (1, 2)),)), wish(body=((("way", ("?d",)),), ()))]:
            error = wish_error(SCHEMA, value)
            self.gives(error is None, False)
            for till in (None, "soon", 3):
                self.raises("BadWish", {"error": error}, fair.come, value, till)
        self.same(fair, model)

    def test_unfit(self):
        fair, model = self.begin(START)
        for till in ANY + [True, False, "3", (3,), [3], [], {}]:
            if till is not None and type(till) is not int:
                self.ask(fair, model, "come", WAITS, till, paper=False)
        self.gives((fair.asked, fair.come(WAITS)), (0, 0))

    def test_unfit_comes_ahead_of_too_many(self):
        fair = made("Fair", START)
        for _ in range(12):
            fair.come(WAITS)
        self.raises("Unfit", {}, fair.come, WAITS, True)
        self.raises("BadWish", {"error": "form"}, fair.come, None, True)
        self.raises("TooMany", {"limit": 12}, fair.come, WAITS, HUGE)
        # One that would not wait is not counted.
        self.gives((fair.come(WAITS, 0), fair.events), (12, (("alone", 0, 12),)))

    def test_tills(self):
        fair, model = self.begin(START)
        for _ in range(2):
            self.ask(fair, model, "plain", put())
        for till in (None, 0, 1, 2, 3, 4, HUGE, -HUGE, -1):
            self.ask(fair, model, "come", WAITS, till)
        self.gives([event[2] for event in fair.events[2:]], [1, 2, 3, 7, 8])
        self.gives((fair.tills, fair.asked), (((4, 3), (5, 4), (6, HUGE)), 4))
        self.ask(fair, model, "plain", put())
        self.gives(fair.events[-2:], (("plain", 3), ("alone", 3, 4)))
        self.ask(fair, model, "plain", put())
        self.gives((fair.events[-2:], fair.tills), ((("plain", 4), ("alone", 4, 5)), ((6, HUGE),)))

    def test_told_alone_does_not_help(self):
        # The wish that does not wait is no partner.
        fair, model = self.begin(START)
        self.ask(fair, model, "come", wish(words("a"), words("b")))
        self.ask(fair, model, "come", wish(words("b"), words("a")), 0)
        self.gives((len(fair.pool), fair.events), (1, (("alone", 0, 1),)))

    def test_alone_by_itself(self):
        fair, model = self.begin(START)
        self.ask(fair, model, "come", wish(writes=[("out", "day", ("?d",))]))
        self.gives((fair.events, fair.store[1], fair.asked), ((("done", 1, 0, (1,), ()),), day(2), 1))

    def test_numbers(self):
        fair, model = self.begin(START)
        for value, till in ((WAITS, None), (wish(), None), (WAITS, 0), (WAITS, None)):
            self.ask(fair, model, "come", value, till)
        self.raises("BadWish", {"error": "form"}, fair.come, None)
        self.gives((fair.come(WAITS), [number for number, _ in fair.pool]), (4, [0, 3, 4]))


class Back(Checked):
    def test_not_waiting(self):
        fair, model = self.begin(START)
        for value, till in ((WAITS, None), (wish(), None), (WAITS, 1), (WAITS, 5)):
            self.ask(fair, model, "come", value, till)
        # 1 is done, 2 was told alone.
        for number in ANY + [1, 2, 4, -1, True, False, "0", (0,), [0], {}, HUGE]:
            if type(number) is not int or number not in (0, 3):
                self.ask(fair, model, "back", number, paper=False)
        self.ask(fair, model, "back", 3)
        self.gives((fair.tills, fair.events[-1]), ((), ("back", 1, 3)))
        self.ask(fair, model, "back", 3)
        self.ask(fair, model, "back", 0)
        self.gives((fair.pool, fair.version), ((), 1))

    def test_false_is_not_the_number_nought(self):
        fair = made("Fair", START)
        fair.come(WAITS)
        self.raises("NotWaiting", {"given": False}, fair.back, False)
        self.gives((fair.back(0), fair.events), (None, (("back", 0, 0),)))

    def test_room_for_another_one(self):
        fair, model = self.begin(START)
        for _ in range(13):
            self.ask(fair, model, "come", WAITS, paper=False)
        self.ask(fair, model, "back", 5)
        self.ask(fair, model, "come", WAITS, paper=False)
        self.gives([number for number, _ in fair.pool], [0, 1, 2, 3, 4, 6, 7, 8, 9, 10, 11, 12])


class Plain(Checked):
    def test_unfit(self):
        fair, model = self.begin(START)
        right = (0, (DAY,), ((), day(3)))
        wrong = [right[:2], right + ((),), list(right), (True,) + right[1:], (None,) + right[1:], ("0",) + right[1:], (0, [DAY]) + right[2:],
                 (0, (DAY,) * 5) + right[2:], (0, (DAY, None)) + right[2:], (0, (((("way", ("?d",)),), ()),)) + right[2:],
                 right[:2] + (None,), right[:2] + (((),),), right[:2] + (([], ()),), right[:2] + (((), list(day(3))),), right[:2] + (((), day(3, 3)),),
                 right[:2] + (((), day(4, 3)),), right[:2] + ((day(2, 1), ()),), right[:2] + (((), (("way", (3,)),)),), right[:2] + (((), (("day", (True,)),)),),
                 right[:2] + (((), (("day", [3]),)),), right[:2] + (((), (["day", (3,)],)),)]
        for value in ANY + wrong:
            self.raises("Unfit", {}, fair.plain, value)
        for value in ANY:
            for dealing in ((value, (DAY,), right[2]), (0, value, right[2]), (0, (DAY,), value), (0, (value,), right[2]), (0, (), (value, ())), (0, (), ((), (value,)))):
                self.ask(fair, model, "plain", dealing, paper=False)
        self.ask(fair, model, "plain", right)
        self.ask(fair, model, "plain", (1, (DAY,) * 4, right[2]))

    def test_by_its_form_it_is_a_dealing(self):
        fair, model = self.begin((SCHEMA, day(*range(400))))
        for begin, change, error in ((-1, NOTHING, ("begin",)), (HUGE, NOTHING, ("begin",)), (0, (day(1), day(1)), ("change", ("both", ("day", (1,))))),
                                     (0, ((), day(400)), ("change", "many")), (0, (day(1), (("seat", (1, 1)), ("seat", (1, 2)))), ("change", ("key", ("seat", (1, 1)))))):
            expected = self.ask(fair, model, "plain", (begin, (), change), paper=False)
            self.gives(expected, ("raises", "Refused", {"error": error}))

    def test_what_refusal_raises_goes_on(self):
        fair, model = self.begin((SCHEMA, day(*range(45))))
        pairs = ((("day", ("?a",)), ("day", ("?b",))), ())
        self.gives(self.ask(fair, model, "plain", (0, (pairs,), ((), day(45))), paper=False), ("returns", 1))
        self.gives(self.ask(fair, model, "plain", (0, (pairs,), NOTHING), paper=False), ("raises", "TooMany", {"limit": 2000}))
        self.gives(self.ask(fair, model, "plain", (0, (pairs,), (day(1), day(1))), paper=False), ("raises", "TooMany", {"limit": 2000}))
        self.gives(self.ask(fair, model, "plain", (-1, (pairs,), NOTHING), paper=False), ("raises", "Refused", {"error": ("begin",)}))

    def test_version_is_that_of_the_dealing(self):
        # Two groups are done behind it.
        fair, model = self.begin((SCHEMA, ()))
        self.ask(fair, model, "come", on_day(3, words("a"), words("b")))
        self.ask(fair, model, "come", on_day(3, words("b"), words("a")))
        self.ask(fair, model, "come", on_day(3, [], [], [("out", "day", (4,))]))
        self.gives(self.ask(fair, model, "plain", put(3, 4)), ("returns", 1))
        self.gives([event[:3] for event in fair.events], [("plain", 1), ("done", 2, 0), ("done", 2, 1), ("done", 3, 2)])
        self.gives((fair.store[1], fair.version), (day(3), 3))

    def test_asked(self):
        fair, model = self.begin(START)
        self.ask(fair, model, "come", WAITS)
        self.ask(fair, model, "come", on_day(9, [], words("no")))
        for change, grows in ((((), day(5)), 1), (((), day(5)), 1), ((day(9), ()), 2), (((), (("seat", (1, "a")),)), 0), (NOTHING, 0), ((day(1), day(9)), 2)):
            before = fair.asked
            self.ask(fair, model, "plain", (0, (), change))
            self.gives(fair.asked - before, grows)


class Rest(Checked):
    def test_alone_ahead_of_a_further_group(self):
        fair, model = self.begin((SCHEMA, ()))
        self.ask(fair, model, "come", WAITS, 2)
        self.ask(fair, model, "come", on_day(3, words("a"), words("b")), 3)
        self.ask(fair, model, "come", on_day(3, words("b"), words("a")), 9)
        self.ask(fair, model, "come", WAITS, 1)
        self.ask(fair, model, "come", on_day(4), 3)
        self.ask(fair, model, "come", WAITS, 3)
        self.ask(fair, model, "come", WAITS, 4)
        self.ask(fair, model, "plain", put(3, 4))
        self.gives(fair.events, (
            ("plain", 1), ("alone", 1, 3), ("done", 2, 1, (), (2,)), ("done", 2, 2, (), (1,)), ("alone", 2, 0), ("done", 3, 4, (), ()), ("alone", 3, 5),
        ))
        self.gives(fair.tills, ((6, 4),))

    def test_told_alone_at_the_closing_that_would_let_them_be_done(self):
        # The day that they wait for comes at the version that ends their waiting.
        fair, model = self.begin((SCHEMA, ()))
        self.ask(fair, model, "come", on_day(3), 1)
        self.ask(fair, model, "plain", put(3))
        self.gives(fair.events, (("plain", 1), ("alone", 1, 0)))

    def test_groups_that_make_room_for_others(self):
        fair, model = self.begin((SCHEMA, ()))
        for number in (4, 3, 2):
            self.ask(fair, model, "come", on_day(number, [], [], [("in", "day", (number + 1,))]))
        self.ask(fair, model, "plain", put(2))
        self.gives([event[1:3] for event in fair.events], [(1,), (2, 2), (3, 1), (4, 0)])
        self.gives(fair.store[1], day(2, 3, 4, 5))

    def test_wish_that_brings_a_group_of_four(self):
        fair, model = self.begin(START)
        for at in range(4):
            self.ask(fair, model, "come", wish([("w" + "abcd"[at], ("?d",))], [("w" + "abcd"[(at + 1) % 4], ("?d",))], [("in", "seat", ("?d", "a"))]))
        self.gives(fair.events[2], ("done", 1, 2, (1,), (0, 1, 3)))
        self.gives((fair.asked, fair.version, fair.pool), (4, 1, ()))


class Limits(Checked):
    def many(self, fair, model, limit, *call):
        self.gives(self.ask(fair, model, *call, paper=False), ("raises", "TooMany", {"limit": limit}))

    def test_wishes_that_wait(self):
        fair, model = self.begin(START)
        for at in range(11):
            self.ask(fair, model, "come", on_day(1, words("a" if at else "b"), words("b" if at else "never")), paper=False)
        # The twelfth may come, the thirteenth not, though it would bring a group about.
        self.ask(fair, model, "come", WAITS, paper=False)
        self.many(fair, model, 12, "come", wish())
        self.many(fair, model, 12, "come", wish(), 5)
        self.ask(fair, model, "back", 11)
        self.ask(fair, model, "come", wish())
        self.gives((fair.version, len(fair.pool)), (1, 11))

    def test_pool_ahead_of_candidates(self):
        fair, model = self.begin((SCHEMA, day(*range(5))))
        for _ in range(12):
            self.ask(fair, model, "come", WAITS, paper=False)
        self.many(fair, model, 12, "come", WAITS)

    def test_candidates(self):
        fair, model = self.begin((SCHEMA, day(*range(20))))
        for _ in range(3):
            self.ask(fair, model, "come", WAITS, paper=False)
        for value in (WAITS, on_day(1), wish()):
            self.many(fair, model, 60, "come", value)
        self.many(fair, model, 60, "plain", put(20))
        self.ask(fair, model, "come", on_day(99, [], words("never")), paper=False)
        self.ask(fair, model, "plain", (0, (), (day(1), day(20))), paper=False)
        self.gives((fair.version, fair.asked), (1, 7))

    def test_candidates_behind_a_group(self):
        # The group puts a day in, and then there are too many candidates.
        fair, model = self.begin((SCHEMA, day(*range(20)) + (("tag", (0, 0)),)))
        for _ in range(2):
            self.ask(fair, model, "come", WAITS, paper=False)
        self.ask(fair, model, "come", wish([], words("never"), [], ((("day", ("?d",)),), (("!=", "?d", 0),))), paper=False)
        tagged = ((("tag", (0, 0)),), ())
        self.many(fair, model, 60, "come", wish([], [], [("in", "day", (20,))], tagged))
        self.ask(fair, model, "come", wish([], [], [("in", "day", (20,)), ("out", "day", (1,))], tagged), paper=False)
        self.gives((fair.version, len(fair.pool), len(fair.events)), (1, 3, 1))

    def test_candidates_behind_a_plain_dealing_and_a_group(self):
        fair, model = self.begin((SCHEMA, day(*range(19))))
        for _ in range(3):
            self.ask(fair, model, "come", WAITS, paper=False)
        self.ask(fair, model, "come", wish([], [], [("in", "day", (20,)), ("in", "day", (21,))], ((("tag", (0, 0)),), ())), paper=False)
        self.many(fair, model, 60, "plain", (0, (), ((), (("tag", (0, 0)),))))
        self.gives((fair.version, fair.events), (0, ()))
        self.ask(fair, model, "back", 2)
        self.ask(fair, model, "plain", (0, (), ((), (("tag", (0, 0)),))), paper=False)
        self.gives(fair.version, 2)

    def test_told_alone_are_not_counted(self):
        fair, model = self.begin((SCHEMA, day(*range(20))))
        for till in (1, None, None):
            self.ask(fair, model, "come", WAITS, till, paper=False)
        self.ask(fair, model, "plain", put(20), paper=False)
        self.gives((fair.version, len(fair.pool)), (1, 2))

    def test_facts(self):
        fair, model = self.begin((SCHEMA, day(*range(1, 400))))
        two = [("in", "day", (0,)), ("in", "day", (500,))]
        one = on_day(1, [], [], [("in", "day", (500,))])
        self.many(fair, model, 400, "come", on_day(1, [], [], two))
        self.ask(fair, model, "come", on_day(1, [], [], two + [("out", "day", (7,))]), paper=False)
        self.gives(len(fair.store[1]), 400)
        self.many(fair, model, 400, "come", on_day(1, [], [], [("in", "day", (7,))]))
        self.ask(fair, model, "come", one, paper=False)
        self.gives((fair.version, len(fair.store[1])), (2, 400))

    def test_facts_behind_groups(self):
        fair, model = self.begin((SCHEMA, day(*range(1, 398))))
        for at in range(3):
            self.ask(fair, model, "come", on_day(0, [], [], [("in", "tag", (at, at))]), paper=False)
        self.many(fair, model, 400, "plain", put(0))
        self.gives((fair.version, fair.events, len(fair.pool), fair.asked), (0, (), 3, 3))
        self.ask(fair, model, "back", 1)
        self.ask(fair, model, "plain", put(0), paper=False)
        self.gives((fair.version, len(fair.store[1])), (3, 400))

    def test_facts_ahead_of_candidates_and_behind(self):
        # Whichever happens first is told.
        facts = day(*range(20)) + tuple(("tag", (number, 0)) for number in range(379))
        fair, model = self.begin((SCHEMA, facts))
        for _ in range(3):
            self.ask(fair, model, "come", WAITS, paper=False)
        self.many(fair, model, 60, "come", on_day(1, [], [], [("in", "seat", (1, 1)), ("in", "seat", (2, 1))]))
        self.ask(fair, model, "back", 0)
        self.many(fair, model, 400, "come", on_day(1, [], [], [("in", "seat", (1, 1)), ("in", "seat", (2, 1))]))


class CopyAndAttempt(Checked):
    def test_neither_of_two_copies_changes_with_the_other(self):
        fair, model = self.begin(START)
        self.ask(fair, model, "come", WAITS, 7)
        self.ask(fair, model, "come", WAITS)
        other, beside = fair.copy(), model.copy()
        self.ask(fair, model, "come", wish())
        self.ask(fair, model, "back", 1)
        self.same(other, beside)
        self.gives((self.ask(other, beside, "come", WAITS), self.ask(fair, model, "come", WAITS)), (("returns", 2), ("returns", 3)))
        self.ask(other, beside, "plain", put(3))
        self.same(fair, model)
        third, last = other.copy(), beside.copy()
        self.ask(third, last, "back", 0)
        self.same(other, beside)
        self.gives(third.copy().events, third.events)

    def test_attempt_that_ends_well(self):
        fair, model = self.begin(START)
        self.gives(fair.attempt(lambda inner: (inner.come(WAITS), inner.come(wish()), inner.version)), (0, 1, 1))
        self.gives(fair.attempt(lambda inner: None), None)
        for value in (WAITS, wish()):
            model.call("come", value)
        self.same(fair, model)

    def test_attempt_passes_the_fair(self):
        fair = Fair(START)
        self.assertIs(fair.attempt(lambda inner: inner), fair)
        self.assertIs(fair.attempt(work=lambda told: told), fair)

    def test_attempt_that_raises_an_error_of_the_package(self):
        fair, model = self.begin(START)
        self.ask(fair, model, "come", WAITS, 5)

        def work(inner):
            inner.come(WAITS)
            inner.plain(put(3))
            inner.come(wish())
            inner.back(0)
            inner.back(0)

        self.raises("NotWaiting", {"given": 0}, fair.attempt, work)
        self.same(fair, model)
        self.ask(fair, model, "come", WAITS)
        self.gives(fair.pool[-1][0], 1)

    def test_errors_of_whatever_call(self):
        class Own(errors.WithError):
            pass

        def raising(error):
            def work(inner):
                inner.come(WAITS)
                raise error
            return work

        for error in (errors.BadRecord(), errors.TooMany(7), errors.Early(3), errors.WithError(), Own("x")):
            fair, model = self.begin(START)
            with self.assertRaises(type(error)) as caught:
                fair.objects[0].attempt(raising(error))
            self.assertIs(caught.exception, error)
            self.gives(state(fair.objects[0]), model.state())
        for error in (ValueError("x"), KeyError(3), Exception(), AttributeError("y")):
            fair, model = Fair(START), Model(START)
            model.call("come", WAITS)
            with self.assertRaises(type(error)):
                fair.attempt(raising(error))
            self.gives(state(fair), model.state())

    def test_another_error_behind_a_caught_one(self):
        def work(inner):
            inner.come(WAITS)
            try:
                inner.back(9)
            except errors.NotWaiting:
                inner.come(WAITS, 4)
            return inner.pool[-1][0]

        fair = made("Fair", START)
        self.gives((fair.attempt(work), fair.tills), (1, ((1, 4),)))

    def test_one_within_another(self):
        def inner_work(inner):
            inner.come(WAITS)
            inner.back(7)

        def outer(inner):
            inner.come(WAITS, 3)
            try:
                inner.attempt(inner_work)
            except errors.NotWaiting:
                pass
            return inner.attempt(lambda again: again.come(WAITS, 4))

        def outer_that_raises(inner):
            inner.attempt(lambda again: again.come(WAITS))
            inner_work(inner)

        fair, model = self.begin(START)
        self.gives(fair.attempt(outer), 1)
        for till in (3, 4):
            model.call("come", WAITS, till)
        self.same(fair, model)
        self.raises("NotWaiting", {"given": 7}, fair.attempt, outer_that_raises)
        self.same(fair, model)

    def test_copy_made_within(self):
        copies = []

        def work(inner):
            inner.come(WAITS)
            copies.append(inner.copy())
            inner.come(WAITS)
            inner.back(9)

        fair, model = self.begin(START)
        self.raises("NotWaiting", {"given": 9}, fair.attempt, work)
        self.same(fair, model)
        for copy in copies:
            self.gives(([number for number, _ in copy.pool], copy.come(WAITS, 3), copy.asked), ([0], 1, 2))
        self.same(fair, model)

    def test_fair_within_itself(self):
        fair = Fair(START)
        with self.assertRaises(errors.BadWish):
            fair.come(fair)
        with self.assertRaises(errors.NotWaiting):
            fair.back(fair)
        with self.assertRaises(errors.Unfit):
            fair.plain(fair)
        with self.assertRaises(errors.BadStore):
            Fair(fair)


class KeptPapers(Checked):
    def test_equal_fairs_tell_equal_things(self):
        chance = random.Random(104)
        for _ in range(10):
            store = drawn_store(chance)
            calls = []
            fair = Fair(store)
            for _ in range(10):
                call = drawn_call(chance, fair)
                calls.append(call)
                try:
                    getattr(fair, call[0])(*call[1:])
                except errors.WithError:
                    pass
            again = Fair(store)
            for call in calls:
                try:
                    getattr(again, call[0])(*call[1:])
                except errors.WithError:
                    pass
            self.gives((state(again), again.paper()), (state(fair), fair.paper()))


if __name__ == "__main__":
    unittest.main()
