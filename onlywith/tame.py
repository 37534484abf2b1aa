"""Tame pools, in which the partners of a wish are forced ([F1] to [F8])."""

from onlywith.errors import NotTame, NoUnifier
from onlywith.joins import joined_rows
from onlywith.questions import least_answer, question_variables, tables_of
from onlywith.stores import keys_of
from onlywith.terms import is_free
from onlywith.unifying import fits, marked, unified


class Ties:
    """The wishes of a pool, and which sayings make which wants by their shape."""

    def __init__(self, pool):
        self.wishes = dict(pool)
        # {word: [(number, place, pattern)]} of all sayings with the word, ascending.
        self.sayings = {}
        for number, wish in pool:
            for place, (word, pattern) in enumerate(wish[1]):
                self.sayings.setdefault(word, []).append((number, place, pattern))

    def makers(self, number, place):
        """The pairs (number, place) of the sayings of other wishes that make a want of a wish."""
        word, want = self.wishes[number][2][place]
        return tuple([
            (other, at) for other, at, pattern in self.sayings.get(word, []) if other != number and fits(want, pattern)
        ])

    def makers_of(self, number):
        """makers, of each want of a wish in order."""
        return [self.makers(number, place) for place in range(len(self.wishes[number][2]))]

    def reached(self, number):
        """{number reached: its makers_of}, ascending, in a tame pool ([F4])."""
        found, waiting = {}, [number]
        while waiting:
            here = waiting.pop()
            if here not in found:
                found[here] = self.makers_of(here)
                waiting.extend([pairs[0][0] for pairs in found[here] if pairs])
        return {here: found[here] for here in sorted(found)}

    def equations(self, reached):
        """The equations of partners ([F5])."""
        found = []
        for number in reached:
            for (_, want), pairs in zip(self.wishes[number][2], reached[number]):
                other, place = pairs[0]
                _, saying = self.wishes[other][1][place]
                found.extend(list(zip(marked(want, number), marked(saying, other))))
        return tuple(found)


def first_lack(reached):
    """The number and the place of the first want that no saying makes; None if there is none."""
    for number in reached:
        for place, pairs in enumerate(reached[number]):
            if not pairs:
                return (number, place)
    return None


class Together:
    """The wishes of partners, with all terms marked, and what their equations make of these."""

    def __init__(self, ties, numbers, terms):
        self.wishes = [(number, ties.wishes[number]) for number in numbers]
        # {variable: its term} for those that stand in an equation.
        self.terms = terms

    def replaced(self, pattern, number):
        """What becomes of a pattern of the wish of a number."""
        return tuple([self.terms.get(term, term) for term in marked(pattern, number)])

    def question(self):
        """What joined returns."""
        patterns, tests = [], []
        for number, (body, _, _, _) in self.wishes:
            patterns.extend([(name, self.replaced(pattern, number)) for name, pattern in body[0]])
            tests.extend([(sign,) + self.replaced((one, other), number) for sign, one, other in body[1]])
        return (tuple(patterns), tuple(tests))

    def least_lot(self, store):
        """The lot of all these wishes that stands on a store and has the least fillings; or None."""
        rows = [(number, self.replaced(question_variables(wish[0]), number)) for number, wish in self.wishes]
        variables = list({term: True for _, row in rows for term in row if is_free(term)})
        values = least_answer(store[1], self.question(), variables)
        if values is None:
            return None
        known = dict(zip(variables, values))
        return tuple([(number, tuple([known.get(term, term) for term in row])) for number, row in rows])


def together(ties, reached):
    """The partners, taken together; None if their equations cannot be made true."""
    try:
        terms = unified(ties.equations(reached))
    except NoUnifier:
        return None
    return Together(ties, list(reached), dict(terms))


def write_error(keys, number, wish):
    """Which writes of a wish keep a pool from being tame, as tame_error tells it; None if none do."""
    if "out" in [sign for sign, _, _ in wish[3]]:
        return ("out", number)
    return ("key", number) if any([keys[name] for _, name, _ in wish[3]]) else None


def tame_error(schema, pool):
    """What keeps a pool from being tame; None for a tame pool ([F3])."""
    ties, keys = Ties(pool), keys_of(schema)
    for number, wish in pool:
        error = write_error(keys, number, wish)
        if error is not None:
            return error
        for place, pairs in enumerate(ties.makers_of(number)):
            if len(pairs) > 1:
                return ("want", number, place)
    return None


def makers(pool, number, place):
    """The sayings of other wishes that make a want by its shape, as pairs (number, place) ([F3])."""
    return Ties(pool).makers(number, place)


def partners(pool, number):
    """The numbers of the wishes reached in a tame pool; None if a want of theirs lacks a saying ([F4])."""
    reached = Ties(pool).reached(number)
    return tuple(list(reached)) if first_lack(reached) is None else None


def joined(pool, number):
    """The question that the partners ask together in a tame pool; None if there is none ([F5])."""
    ties = Ties(pool)
    reached = ties.reached(number)
    if first_lack(reached) is not None:
        return None
    found = together(ties, reached)
    return None if found is None else found.question()


def tame_first(store, pool):
    """The first group of a pool that is tame; None if there is none ([F6])."""
    error = tame_error(store[0], pool)
    if error is not None:
        raise NotTame(error)
    ties = Ties(pool)
    for number, _ in pool:
        reached = ties.reached(number)
        if number == list(reached)[0] and first_lack(reached) is None:
            found = together(ties, reached)
            lot = None if found is None else found.least_lot(store)
            if lot is not None:
                return lot
    return None


def part_of(question, many):
    """The first so many patterns of a question, and its tests all whose variables stand in them."""
    patterns, tests = question[0][:many], question[1]
    there = {variable: True for variable in question_variables((patterns, ()))}
    return (patterns, [test for test in tests if all([not is_free(term) or term in there for term in test[1:]])])


def has_answer(facts, question):
    """Whether a question, perhaps one without patterns, has an answer on facts."""
    patterns, tests = question
    return bool(joined_rows(tables_of(facts, patterns), tests, (), 1))


def tame_paper(store, pool, number):
    """Why no lot with just the partners' numbers stands on a store, in a tame pool; None if one does ([F7])."""
    ties = Ties(pool)
    reached = ties.reached(number)
    lack = first_lack(reached)
    if lack is not None:
        return ("lack",) + lack
    found = together(ties, reached)
    if found is None:
        return ("unlike",)
    question = found.question()
    if has_answer(store[1], question):
        return None
    # With more patterns there are no answers either, so each look leaves half of the numbers.
    least, most = 0, len(question[0])
    while least < most:
        many = (least + most) // 2
        if has_answer(store[1], part_of(question, many)):
            least = many + 1
        else:
            most = many
    return ("ends", most)
