"""Pools that are drawn for tests, and what the document tells of lots on them, tried out word by word."""

import itertools

from onlywith.questions import question_variables
from onlywith.stores import key_of, rival
from onlywith.terms import filled, row_rank
from onlywith.wishes import fillings, said, wanted, writes_of

SCHEMA = (("day", 1, ()), ("seat", 2, (0,)), ("tag", 2, (0,)))


def drawn_store(chance, days=3):
    """A store with some days and seats."""
    facts = [("day", (number,)) for number in range(days) if chance.random() < 0.85]
    facts += [("seat", (number, chance.choice("ab"))) for number in range(3) if chance.random() < 0.4]
    facts += [("tag", (number, 0)) for number in range(2) if chance.random() < 0.3]
    return (SCHEMA, tuple(facts))


def drawn_wish(chance, words):
    """A wish on the days, that says and wants some of the words."""
    patterns, tests = [("day", ("?d",))], []
    if chance.random() < 0.3:
        patterns.append(("day", ("?e",)))
    if chance.random() < 0.3:
        patterns.append(("seat", ("?e", "?s")))
    variables = list(question_variables((patterns, ())))
    if chance.random() < 0.4:
        tests.append((chance.choice(("=", "!=", "<")), chance.choice(variables), chance.choice(variables + [1])))
    terms = variables + ["?d", "?d", 1]

    def spoken(most):
        many = chance.choice([number for number in (0, 1, 1, 1, 2, 3) if number <= most])
        return tuple((chance.choice(words), tuple(chance.choice(terms) for _ in range(chance.choice((0, 1, 1))))) for _ in range(many))

    writes = []
    for _ in range(chance.choice((0, 0, 1, 1, 2))):
        name = chance.choice(("seat", "seat", "tag"))
        row = (chance.choice(terms), chance.choice(["a", "b", 0] + terms))
        writes.append((chance.choice(("in", "in", "out")), name, row))
    return ((tuple(patterns), tuple(tests)), spoken(3), spoken(2), tuple(writes))


def drawn_pool(chance, many, words):
    """A pool of so many wishes, with numbers that leave gaps."""
    numbers = sorted(chance.sample(range(3 * many + 1), many))
    return tuple((number, drawn_wish(chance, words)) for number in numbers)


def members_of(store, pool):
    """All members, ascending."""
    return [(number, filling) for number, wish in pool for filling in fillings(store, wish)]


class Lots:
    """The lots of a pool on a store, as [E2] tells them."""

    def __init__(self, store, pool):
        self.store, self.pool, self.wishes = store, pool, dict(pool)
        self.members = members_of(store, pool)
        self.memory = {}

    def told(self, member):
        """The pairs of what a member says, wants, its outs and its ins."""
        if member not in self.memory:
            wish = self.wishes[member[0]]
            outs, ins = writes_of(wish, member[1])
            self.memory[member] = (said(wish, member[1]), wanted(wish, member[1]), outs, ins)
        return self.memory[member]

    def one_key(self, one, other):
        key = key_of(self.store[0], one)
        return one != other and key is not None and key == key_of(self.store[0], other)

    def clash(self, one, other):
        """Whether an in of one is an out of other, or has the key of an unlike in of it; both ways round."""
        pairs = ((self.told(one), self.told(other)), (self.told(other), self.told(one)))
        return any(
            fact in second[2] or any(self.one_key(fact, further) for further in second[3])
            for first, second in pairs for fact in first[3]
        )

    def breaks_alone(self, member):
        """Whether a member breaks (c) or (d) of [E2] by itself."""
        _, _, outs, ins = self.told(member)
        return any(fact in outs or any(self.one_key(fact, other) for other in ins) for fact in ins)

    def placed_write(self, member, place):
        """The sign and the fact of a member's write at a place."""
        wish = self.wishes[member[0]]
        sign, name, pattern = wish[3][place]
        return sign, (name, filled(pattern, tuple(zip(question_variables(wish[0]), member[1]))))

    def is_true(self, left, member, reason):
        """Whether a reason of [D2], by its form, is true of a member of left."""
        if reason == ("own",):
            return self.breaks_alone(member)
        word, place = reason
        wish = self.wishes[member[0]]
        if word == "want":
            others = [saying for other in left if other[0] != member[0] for saying in self.told(other)[0]]
            return 0 <= place < len(wish[2]) and self.told(member)[1][place] not in others
        if word != "key" or not 0 <= place < len(wish[3]):
            return False
        sign, fact = self.placed_write(member, place)
        found = rival(self.store, fact)
        return sign == "in" and found is not None and not any(found in self.told(other)[2] for other in left)

    def reasons(self, left, member):
        """All reasons that are true of a member of left, in the order of reason_of."""
        some = [("own",)] + [("want", place) for place in range(4)] + [("key", place) for place in range(6)]
        return [reason for reason in some if self.is_true(left, member, reason)]

    def way(self, outs, fact):
        """Whether an in is in no unlike fact's way that is no out."""
        found = rival(self.store, fact)
        return found is None or found in outs

    def stand(self, lot):
        """Whether members with ascending numbers stand."""
        outs = [fact for member in lot for fact in self.told(member)[2]]
        for member in lot:
            others = [saying for other in lot if other != member for saying in self.told(other)[0]]
            if any(want not in others for want in self.told(member)[1]):
                return False
            if any(self.clash(member, other) for other in lot):
                return False
            if not all(self.way(outs, fact) for fact in self.told(member)[3]):
                return False
        return bool(lot)

    def all_standing(self):
        """All lots that stand."""
        choices = [[None] + [member for member in self.members if member[0] == number] for number, _ in self.pool]
        lots = [tuple(member for member in chosen if member) for chosen in itertools.product(*choices)]
        return [lot for lot in lots if self.stand(lot)]

    def error(self, lot):
        """What lot_error tells of a lot of members."""
        numbers = range(len(lot))
        found = [("own", at) for at in numbers if self.breaks_alone(lot[at])]
        for at in numbers:
            others = [saying for further in numbers if further != at for saying in self.told(lot[further])[0]]
            found += [("want", at, place) for place, want in enumerate(self.told(lot[at])[1]) if want not in others]
        found += [("clash", at, further) for at in numbers for further in numbers[at + 1:] if self.clash(lot[at], lot[further])]
        outs = [fact for member in lot for fact in self.told(member)[2]]
        for at in numbers:
            for place in range(len(self.wishes[lot[at][0]][3])):
                sign, fact = self.placed_write(lot[at], place)
                if sign == "in" and not self.way(outs, fact):
                    found.append(("key", at, place))
        return found[0] if found else (None if lot else "empty")

    def smaller(self, lot):
        """The smaller lots of its members with its least number that stand, by their numbers."""
        parts = [lot[:1] + part for many in range(len(lot) - 1) for part in itertools.combinations(lot[1:], many)]
        return sorted((part for part in parts if self.stand(part)), key=lambda part: [number for number, _ in part])

    def first(self):
        """The first group, or None."""
        groups = [lot for lot in self.all_standing() if not self.smaller(lot)]
        return min(groups, key=lambda lot: ([number for number, _ in lot], [row_rank(row) for _, row in lot]), default=None)
