"""Tests of onlywith.questions: [B5], [B6]."""

import itertools
import random
import unittest

from support import ANY, ODD, VARIABLES, Case, steady

question_error = steady("questions", "question_error")
question_variables = steady("questions", "question_variables")
answers = steady("questions", "answers")
lets_by = steady("questions", "lets_by")
parting_answer = steady("questions", "parting_answer")
matched = steady("terms", "matched")
filled = steady("terms", "filled")
row_rank = steady("terms", "row_rank")

SCHEMA = (("n", 1, ()), ("p", 2, (0,)), ("t", 3, ()))
ONE = (("n", ("?x",)),)
TOO_MANY = ("TooMany", {"limit": 2000})


def numbers(many, start=0):
    """A store of so many facts n(number)."""
    return (SCHEMA, tuple(("n", (number,)) for number in range(start, start + many)))


def name_of(number):
    """Unlike variables for unlike numbers, not in their order."""
    return "?" + "".join(chr(97 + number // 26 ** place % 26) for place in (0, 1, 2))


class QuestionError(Case):
    def test_right(self):
        for question in (
            (ONE, ()), ((("n", (3,)),), ()), ((("t", ("?x", "?x.7", "a")), ("p", (1, "?y"))), (("=", "?y", "?x.7"),)),
            (ONE * 6, (("<", 1, "?x"),) * 6), (ONE, (("=", 3, "a"), ("!=", "?x", "?x"))),
        ):
            self.gives(question_error(SCHEMA, question), None)

    def test_form(self):
        for value in ANY + [[ONE, ()], (ONE,), (ONE, (), ()), None, {ONE: ()}]:
            if not (isinstance(value, tuple) and len(value) == 2):
                self.gives(question_error(SCHEMA, value), "form")

    def test_patterns(self):
        for patterns in ((), list(ONE), ONE * 7, None, "n", {}, 3, (None,) * 7):
            self.gives(question_error(SCHEMA, (patterns, ())), "patterns")
            self.gives(question_error(SCHEMA, (patterns, None)), "patterns")
        self.gives(question_error(SCHEMA, (ONE * 6, ())), None)

    def test_pattern(self):
        wrong = [
            None, (), ("n",), ("n", ("?x",), ()), ["n", ("?x",)], ("o", ("?x",)), ("", ()), (None, ()), ([], ("?x",)),
            ({}, ("?x",)), ("n", ["?x"]), ("n", "?x"), ("n", ()), ("n", ("?x", "?y")), ("p", ("?x",)), ("n", None),
            ("n", tuple(range(3000))), ("?x", ("?x",)), (1, ("?x",)), (True, ("?x",)),
        ] + [("n", (term,)) for term in ODD]
        for item in wrong:
            self.gives(question_error(SCHEMA, ((item,), ())), ("pattern", 0))
            self.gives(question_error(SCHEMA, (ONE * 2 + (item, item), None)), ("pattern", 2))
        self.gives([question_error(SCHEMA, ((("n", (term,)),), ())) for term in VARIABLES], [None] * len(VARIABLES))
        self.gives(question_error((), (ONE, ())), ("pattern", 0))

    def test_tests(self):
        for tests in (None, [], {}, "=", 3, (None,) * 7, (("=", 1, 1),) * 7):
            self.gives(question_error(SCHEMA, (ONE, tests)), "tests")
        self.gives(question_error(SCHEMA, (ONE, (("=", 1, 1),) * 6)), None)
        self.gives(question_error(SCHEMA, (ONE + (None,), None)), ("pattern", 1))

    def test_test(self):
        wrong = [
            None, (), ("=", 1), ("=", 1, 1, 1), ["=", 1, 1], (">", 1, 1), ("==", 1, 1), ("<=", 1, 1), ("", 1, 1),
            (None, 1, 1), ([], 1, 1), (True, 1, 1), ("=", "?y", 1), ("=", 1, "?y"), ("<", "?x", "?x.1"), ("=", "?", 1),
        ] + [("!=", term, 1) for term in ODD] + [("!=", "?x", term) for term in ODD]
        for item in wrong:
            self.gives(question_error(SCHEMA, (ONE, (item,))), ("test", 0))
            self.gives(question_error(SCHEMA, (ONE, (("=", "?x", 1), item, item))), ("test", 1))

    def test_variables_of_tests_stand_in_some_pattern(self):
        patterns = (("p", ("?a", "?c.3")), ("n", ("?b",)))
        tests = (("<", "?b", "?a"), ("=", "?c.3", "?b"), ("!=", "?c", 1))
        self.gives(question_error(SCHEMA, (patterns, tests[:2])), None)
        self.gives(question_error(SCHEMA, (patterns, tests)), ("test", 2))


class QuestionVariables(Case):
    def test_ascending_each_once(self):
        patterns = (("t", ("?c", "?a", 3)), ("p", ("?a", "?b.10")), ("n", ("a",)), ("n", ("?b.9",)))
        self.gives(question_variables((patterns, ())), ("?a", "?b.10", "?b.9", "?c"))
        self.gives(question_variables(((("n", (3,)),), ())), ())

    def test_many_patterns(self):
        names = [name_of(number) for number in range(300)]
        question = (tuple(("n", (name,)) for name in names), ())
        self.gives(question_variables(question), tuple(sorted(names)))


MIXED = (SCHEMA, (
    ("n", (-5,)), ("n", (3,)), ("n", (20,)), ("n", ("a",)), ("n", ("bo",)), ("p", (3, "a")), ("p", (20, 20)),
    ("p", ("a", 3)), ("t", (3, 3, "a")), ("t", (3, "a", 3)), ("t", ("a", "a", "a")),
))


class Answers(Case):
    def test_order(self):
        self.gives(answers(MIXED, (ONE, ())), ((-5,), (3,), (20,), ("a",), ("bo",)))
        self.gives(answers(MIXED, ((("p", ("?b", "?a")),), ())), ((3, "a"), (20, 20), ("a", 3)))

    def test_same_variable_more_than_once(self):
        self.gives(answers(MIXED, ((("p", ("?x", "?x")),), ())), ((20,),))
        self.gives(answers(MIXED, ((("t", ("?x", "?x", "?y")),), ())), ((3, "a"), ("a", "a")))
        self.gives(answers(MIXED, ((("t", ("?x", "?x", "?x")),), ())), (("a",),))

    def test_values_in_patterns(self):
        self.gives(answers(MIXED, ((("p", ("a", "?x")),), ())), ((3,),))
        self.gives(answers(MIXED, ((("t", (3, "?x", "a")),), ())), ((3,),))
        self.gives(answers(MIXED, ((("n", (4,)), ("n", ("?x",))), ())), ())

    def test_joins(self):
        self.gives(answers(MIXED, ((("p", ("?x", "?y")), ("p", ("?y", "?x"))), ())), ((3, "a"), (20, 20), ("a", 3)))
        self.gives(answers(MIXED, ((("p", ("?x", "?y")), ("n", ("?y",)), ("t", ("?y", "?z", "?x"))), ())),
                   (("a", 3, 3),))
        self.gives(answers(MIXED, (ONE + (("t", ("?x", "?y", "?z")),), ())), answers(MIXED, ((("t", ("?x", "?y", "?z")),), ())))

    def test_without_variables(self):
        self.gives(answers(MIXED, ((("n", (3,)), ("p", (3, "a"))), ())), ((),))
        self.gives(answers(MIXED, ((("n", (3,)), ("p", (3, "b"))), ())), ())
        self.gives(answers(MIXED, ((("n", (3,)),), (("<", 3, "a"), ("=", 1, 1)))), ((),))
        self.gives(answers(MIXED, ((("n", (3,)),), (("<", 3, "a"), ("=", 1, 2)))), ())

    def test_tests_between_values(self):
        for test, right in (
            (("=", 3, 3), True), (("=", 3, "a"), False), (("!=", 3, 3), False), (("!=", 3, "a"), True),
            (("<", 3, 3), False), (("<", 3, 10), True), (("<", 10, 3), False), (("<", 3, "a"), True), (("<", "a", 3), False),
            (("<", -10, -9), True), (("<", "a", "b"), True), (("<", "b", "aa"), False), (("<", "a", "a"), False),
        ):
            self.gives(answers(MIXED, (ONE, (test,))), answers(MIXED, (ONE, ())) if right else ())
            self.gives(lets_by(MIXED, (ONE, (test,)), (3,)), right)

    def test_tests_with_a_value(self):
        expected = {
            ("=", "?x", 3): ((3,),), ("=", 3, "?x"): ((3,),), ("=", "?x", 4): (), ("!=", "?x", 3): ((-5,), (20,), ("a",), ("bo",)),
            ("!=", 3, "?x"): ((-5,), (20,), ("a",), ("bo",)), ("<", "?x", 3): ((-5,),), ("<", 3, "?x"): ((20,), ("a",), ("bo",)),
            ("<", "?x", "a"): ((-5,), (3,), (20,)), ("<", "a", "?x"): (("bo",),), ("<", "?x", "b"): ((-5,), (3,), (20,), ("a",)),
        }
        for test, rows in expected.items():
            self.gives(answers(MIXED, (ONE, (test,))), rows)

    def test_tests_between_variables(self):
        pairs = (("n", ("?x",)), ("n", ("?y",)))
        values = (-5, 3, 20, "a", "bo")
        every = list(itertools.product(values, repeat=2))
        places = {value: place for place, value in enumerate(values)}
        self.gives(answers(MIXED, (pairs, (("=", "?x", "?y"),))), tuple((value, value) for value in values))
        self.gives(answers(MIXED, (pairs, (("!=", "?x", "?y"),))), tuple(row for row in every if row[0] != row[1]))
        below = [row for row in every if places[row[0]] < places[row[1]]]
        self.gives(answers(MIXED, (pairs, (("<", "?x", "?y"),))), tuple(below))
        self.gives(answers(MIXED, (pairs, (("<", "?y", "?x"),))), tuple(row for row in every if row[::-1] in below))

    def test_tests_of_one_variable(self):
        self.gives(answers(MIXED, (ONE, (("=", "?x", "?x"),))), answers(MIXED, (ONE, ())))
        self.gives(answers(MIXED, (ONE, (("!=", "?x", "?x"),))), ())
        self.gives(answers(MIXED, (ONE, (("<", "?x", "?x"),))), ())
        self.gives(answers(MIXED, ((("p", ("?x", "?y")),), (("<", "?y", "?x"),))), (("a", 3),))

    def test_as_many_as_there_may_be(self):
        pairs = (("n", ("?x",)), ("t", ("?y", "?y", "?z")))
        facts = tuple(("n", (number,)) for number in range(200)) + tuple(("t", (1, 1, number)) for number in range(10))
        found = answers((SCHEMA, facts), (pairs, ()))
        self.gives((len(found), found[0], found[-1]), (2000, (0, 1, 0), (199, 1, 9)))
        more = (SCHEMA, facts[:200] + (("n", (200,)),) + facts[200:])
        self.raises(*TOO_MANY, answers, more, (pairs, ()))
        self.gives(len(answers(more, (pairs, (("!=", "?x", 7),)))), 2000)

    def test_2001_answers(self):
        facts = tuple(("n", (number,)) for number in range(29)) + tuple(("t", (1, 1, number)) for number in range(69))
        question = ((("n", ("?x",)), ("t", (1, 1, "?y"))), ())
        self.raises(*TOO_MANY, answers, (SCHEMA, facts), question)
        self.gives(len(answers((SCHEMA, facts), (question[0], (("<", 0, "?x"),)))), 28 * 69)

    def test_what_tests_take_away_does_not_count(self):
        store = numbers(400)
        names = ["?a", "?b", "?c", "?d", "?e", "?f"]
        patterns = tuple(("n", (name,)) for name in names)
        chain = [(names[place], names[place + 1]) for place in range(5)]
        equal = tuple(("=", one, other) for one, other in chain)
        self.gives(answers(store, (patterns, equal)), tuple((number,) * 6 for number in range(400)))
        below = tuple(("<", one, other) for one, other in chain)
        self.gives(answers(store, (patterns, below + (("<", "?f", 6),))), ((0, 1, 2, 3, 4, 5),))
        self.gives(len(answers(store, (patterns, below + (("<", 392, "?a"),)))), 7)
        self.gives(answers(store, (patterns, below + (("<", "?f", "?a"),))), ())
        self.gives(answers(store, (patterns, equal + (("!=", "?a", "?f"),))), ())
        self.raises(*TOO_MANY, answers, store, (patterns, below))

    def test_what_further_patterns_take_away_does_not_count(self):
        facts = tuple(("n", (number,)) for number in range(390)) + (("t", (1, 2, 3)), ("t", (388, 389, 0)))
        patterns = (("n", ("?a",)), ("n", ("?b",)), ("n", ("?c",)), ("n", ("?d",)))
        self.gives(answers((SCHEMA, facts), (patterns + (("t", ("?a", "?b", "?c")), ("t", ("?d", 2, 3))), ())),
                   ((1, 2, 3, 1), (388, 389, 0, 1)))
        self.gives(answers((SCHEMA, facts), (patterns + (("p", ("?e", 1)),), ())), ())

    def test_crossing_tests_on_large_tables(self):
        facts = tuple(("p", (number, 400 - number)) for number in range(400))
        patterns = (("p", ("?a", "?b")), ("p", ("?c", "?d")), ("p", ("?e", "?f")))
        tests = (("<", "?a", "?c"), ("<", "?c", "?e"), ("<", "?b", "?f"))
        self.gives(answers((SCHEMA, facts), (patterns, tests)), ())

    def test_test_within_a_large_table(self):
        facts = tuple(("n", (number,)) for number in range(150)) + tuple(("t", (number, number, 1)) for number in range(250))
        patterns = (("n", ("?a",)), ("n", ("?b",)), ("n", ("?c",)), ("t", ("?x", "?y", "?z")))
        tests = (("!=", "?a", "?x"), ("!=", "?b", "?x"), ("!=", "?c", "?x"), ("<", "?x", "?y"))
        self.gives(answers((SCHEMA, facts), (patterns, tests)), ())
        self.gives(answers((SCHEMA, facts), (patterns, tests[:3] + (("!=", "?x", "?y"),))), ())

    def test_more_patterns_and_tests_than_a_question_has(self):
        names = [name_of(number) for number in range(240)]
        patterns = tuple(("p", pair) for pair in zip(names, names[1:]))
        ring = (SCHEMA, tuple(("p", (number, (number + 1) % 5)) for number in range(5)))
        expected = tuple(tuple((start + names.index(name)) % 5 for name in sorted(names)) for start in range(5))
        found = answers(ring, (patterns, ()))
        self.gives(found, tuple(sorted(expected)))
        self.gives(lets_by(ring, (patterns, ()), expected[3]), True)
        tests = tuple(("!=", one, other) for one, other in zip(names, names[1:]))
        self.gives(answers(ring, (patterns, tests + (("=", names[0], 2),))), (expected[2],))
        self.gives(answers(ring, (patterns, tests + (("<", 3, 3),))), ())
        self.gives(answers(ring, (patterns * 2, tests * 2 + (("=", names[0], names[5]),))), tuple(sorted(expected)))
        self.gives(answers(ring, (patterns, tests + (("=", names[0], names[6]),))), ())

    def test_patterns_twice(self):
        self.gives(answers(MIXED, (ONE * 6, ())), answers(MIXED, (ONE, ())))


def answers_by_trying(store, question):
    """What [B6] tells, by going through all facts for each pattern."""
    patterns, tests = question
    knowns = [()]
    for name, pattern in patterns:
        knowns = [matched(pattern, fact[1], known) for fact in store[1] if fact[0] == name for known in knowns]
        knowns = [known for known in knowns if known is not None]
    rows = {}
    for known in knowns:
        terms = [(sign, row_rank(filled((one, other), known))) for sign, one, other in tests]
        if all({"=": one == other, "!=": one != other, "<": one < other}[sign] for sign, (one, other) in terms):
            rows[tuple(value for _, value in known)] = True
    return tuple(sorted(rows, key=row_rank))


def some_question(chance, values):
    """Any store of a few facts and a question of its schema, or of more patterns and tests."""
    widths = {"n": 1, "p": 2, "t": 3}
    facts = {}
    for _ in range(chance.randrange(25)):
        name = chance.choice("nppt")
        facts[(name, tuple(chance.choice(values) for _ in range(widths[name])))] = True
    variables = ["?a", "?b", "?c", "?a.1", "?a.12"][:chance.randint(1, 5)]
    patterns = []
    for _ in range(chance.choice([1, 2, 3, 3, 7])):
        name = chance.choice("nppt")
        patterns.append((name, tuple(chance.choice(variables * 3 + values) for _ in range(widths[name]))))
    terms = list(question_variables((patterns, ()))) * 3 + values
    tests = [(chance.choice(["=", "!=", "<"]), chance.choice(terms), chance.choice(terms)) for _ in range(chance.choice([0, 1, 2, 9]))]
    schema = tuple((name, widths[name], ()) for name in "npt")
    return (schema, tuple(sorted(facts, key=lambda fact: (fact[0], row_rank(fact[1]))))), (tuple(patterns), tuple(tests))


class Tried(Case):
    def test_some_of_all_sorts(self):
        chance = random.Random(7)
        some = 0
        for _ in range(1500):
            values = chance.choice([[1, 2, "a"], [1, "b"], [-3, 1, 2, "a", "bo"]])
            store, question = some_question(chance, values)
            expected = answers_by_trying(store, question)
            self.gives(answers(store, question), expected)
            some += bool(expected)
            variables = question_variables(question)
            for row in list(expected[:2]) + [tuple(chance.choice(values) for _ in variables) for _ in range(2)]:
                self.gives(lets_by(store, question, row), row in expected)
        self.gives(some > 200, True)


class LetsBy(Case):
    question = ((("p", ("?b", "?a")),), (("!=", "?a", "?b"),))

    def test_rows(self):
        self.gives([lets_by(MIXED, self.question, row) for row in (("a", 3), (3, "a"), (20, 20), ("a", 20))],
                   [True, True, False, False])

    def test_no_rows(self):
        for row in ANY + [["a", 3], ("a",), ("a", 3, 3), (3,), (), ("a", "?b"), (("a",), 3), ({}, []), "ab", {"a": 3, 3: "a"}]:
            self.gives(lets_by(MIXED, self.question, row), False)

    def test_bools(self):
        store = (SCHEMA, (("n", (0,)), ("n", (1,)), ("p", (1, 1))))
        self.gives([lets_by(store, (ONE, ()), row) for row in ((1,), (True,), (0,), (False,))], [True, False, True, False])
        self.gives([lets_by(store, ((("p", ("?a", "?b")),), ()), row) for row in ((1, True), (True, 1), (1, 1))],
                   [False, False, True])

    def test_without_variables(self):
        for pattern, right in ((("n", (3,)), True), (("n", (4,)), False)):
            self.gives([lets_by(MIXED, ((pattern,), ()), row) for row in ((), [], (3,), None)], [right] + [False] * 3)

    def test_each_pattern_and_test(self):
        patterns = (("n", ("?x",)), ("p", ("?x", "?y")))
        self.gives(lets_by(MIXED, (patterns, ()), (3, "a")), True)
        self.gives(lets_by(MIXED, (patterns + (("n", (4,)),), ()), (3, "a")), False)
        self.gives(lets_by(MIXED, (patterns, (("<", "?x", "?y"), ("<", "?y", "?x"))), (3, "a")), False)

    def test_with_too_many_answers(self):
        store = numbers(400)
        question = ((("n", ("?x",)), ("n", ("?y",))), ())
        self.gives([lets_by(store, question, row) for row in ((0, 399), (399, 399), (0, 400))], [True, True, False])


class PartingAnswer(Case):
    def test_both_ways_round(self):
        one = (SCHEMA, (("n", (3,)), ("n", (20,)), ("n", ("a",))))
        other = (SCHEMA, (("n", (3,)), ("n", ("a",)), ("n", ("bo",))))
        for stores in ((one, other), (other, one)):
            self.gives(parting_answer(*stores, (ONE, ())), (20,))
            self.gives(parting_answer(*stores, (ONE, (("<", 20, "?x"),))), ("bo",))
            self.gives(parting_answer(*stores, (ONE, (("<", "?x", 20),))), None)
            self.gives(parting_answer(*stores, ((("n", (20,)),), ())), ())

    def test_equal_stores(self):
        self.gives(parting_answer(MIXED, MIXED, (ONE, ())), None)
        self.gives(parting_answer(numbers(0), numbers(0), (ONE, ())), None)
        self.gives(parting_answer(MIXED, (SCHEMA, MIXED[1][:-1]), (ONE, ())), None)

    def test_one_is_empty(self):
        for stores in ((MIXED, numbers(0)), (numbers(0), MIXED)):
            self.gives(parting_answer(*stores, (ONE, ())), (-5,))

    def test_too_many(self):
        pairs = ((("n", ("?x",)), ("n", ("?y",))), ())
        for stores in ((numbers(45), numbers(3)), (numbers(3), numbers(45)), (numbers(45), numbers(45))):
            self.raises(*TOO_MANY, parting_answer, *stores, pairs)
        self.gives(parting_answer(numbers(44), numbers(43), pairs), (0, 43))


if __name__ == "__main__":
    unittest.main()
