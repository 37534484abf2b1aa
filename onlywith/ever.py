"""Ever: which templates can have all their wants made, on any store at all ([G4] to [G6])."""

from heapq import heappop, heappush

from onlywith.kinds import constants_of, kind_in, kinds_of, shape_in, variables_at
from onlywith.questions import is_answer_on
from onlywith.stores import fact_rank, is_fact
from onlywith.terms import filled, is_integer, is_tuple
from onlywith.wishes import known_of, said, sorted_facts, wanted


class Case:
    """A case, and the shapes of its sayings and wants, as pairs (word, shape)."""

    def __init__(self, place, kind, wish, variables):
        self.place = place
        self.kind = kind
        items = dict(zip(variables, kind))
        self.says = [(word, shape_in(items, pattern)) for word, pattern in wish[1]]
        self.wants = [(word, shape_in(items, pattern)) for word, pattern in wish[2]]


def cases_of(templates):
    """All cases, ascending."""
    return [
        Case(place, kind, wish, variables_at(templates, place))
        for place, wish in enumerate(templates) for kind in kinds_of(templates, place)
    ]


class Strikes:
    """Cases that are struck, one after another, for a want that no case left makes."""

    def __init__(self, cases):
        self.cases = cases
        self.left = [True for _ in cases]
        # {(word, shape): how many cases left say it}, and {(word, shape): [places of cases that want it]}
        self.counts = {}
        self.wanters = {}
        for at, each in enumerate(cases):
            for told in {saying: True for saying in each.says}:
                self.counts[told] = self.counts.get(told, 0) + 1
            for want in each.wants:
                self.wanters.setdefault(want, []).append(at)

    def lack(self, at):
        """The place of the first want of a case that no case left makes; None if there is none."""
        for place, want in enumerate(self.cases[at].wants):
            if not self.counts.get(want, 0):
                return place
        return None

    def strike(self, at):
        """Strikes a case; returns the cases, also struck ones, that want what no case left says now."""
        self.left[at] = False
        freed = []
        for told in {saying: True for saying in self.cases[at].says}:
            self.counts[told] -= 1
            if not self.counts[told]:
                freed.extend(self.wanters.get(told, []))
        return freed

    def lines(self):
        """Strikes the first case that can be struck, again and again; returns the lines ([G4])."""
        # An ascending list is a heap; what is in it lacks a want from then on.
        waiting = [at for at in range(len(self.cases)) if self.lack(at) is not None]
        found = []
        while waiting:
            at = heappop(waiting)
            if self.left[at]:
                found.append((self.cases[at].place, self.cases[at].kind, self.lack(at)))
                for other in self.strike(at):
                    heappush(waiting, other)
        return found


def cases_left(templates):
    """The cases that are left at the end, ascending, and the lines that strike the others."""
    strikes = Strikes(cases_of(templates))
    lines = strikes.lines()
    return [each for each, left in zip(strikes.cases, strikes.left) if left], lines


def family(templates):
    """The greatest family of cases that is closed under wants, and the lines ([G4])."""
    left, lines = cases_left(templates)
    return (tuple([(each.place, each.kind) for each in left]), tuple(lines))


def can_ever(templates, place):
    """Whether a template can have all its wants made on some store ([G4])."""
    left, _ = cases_left(templates)
    return any([each.place == place for each in left])


def classes_in(each):
    """How many classes a case has."""
    return len({item: True for item in each.kind if isinstance(item, tuple)})


class Party:
    """Copies of templates, to which others are added until each want is made."""

    def __init__(self, templates, left):
        self.templates = templates
        self.constants = constants_of(templates)
        # {(word, shape): (case, place of its saying)}: the case left with the fewest classes that says it.
        self.by_shape = {}
        for each in sorted(left, key=classes_in):
            for place, told in enumerate(each.says):
                self.by_shape.setdefault(told, (each, place))
        # As many values that are no constants as a template has variables, at most.
        most = max([len(variables_at(templates, place)) for place in range(len(templates))])
        free = [number for number in range(most + len(self.constants)) if number not in self.constants]
        self.free = free[:most]
        self.copies = []
        # {(word, row): [numbers of the copies that say it]}
        self.sayers = {}

    def place_copy(self, each, values):
        """Adds a copy of a case, in which some classes have the values told, {class: value}."""
        used = {value: True for value in list(values.values())}
        rest = [value for value in self.free if value not in used]
        for item in each.kind:
            if isinstance(item, tuple) and item not in values:
                values = {**values, item: rest[0]}
                rest = rest[1:]
        filling = tuple([values.get(item, item) for item in each.kind])
        for told in {saying: True for saying in said(self.templates[each.place], filling)}:
            self.sayers.setdefault(told, []).append(len(self.copies))
        self.copies.append((each.place, filling))

    def place_maker(self, want):
        """Adds a copy that says what is wanted."""
        word, row = want
        each, place = self.by_shape[(word, kind_in(self.constants, row))]
        items = dict(zip(variables_at(self.templates, each.place), each.kind))
        pattern = self.templates[each.place][1][place][1]
        told = [items.get(term, term) for term in pattern]
        self.place_copy(each, {item: value for item, value in zip(told, row) if isinstance(item, tuple)})

    def complete(self):
        """Adds copies until each want of each copy is made by another one."""
        number = 0
        while number < len(self.copies):
            place, filling = self.copies[number]
            for want in wanted(self.templates[place], filling):
                if self.sayers.get(want, []) in ([], [number]):
                    self.place_maker(want)
            number += 1

    def facts(self):
        """The facts that the bodies of the copies ask for, ascending."""
        found = {}
        for place, filling in {copy: True for copy in self.copies}:
            wish = self.templates[place]
            known = known_of(wish, filling)
            for name, pattern in wish[0][0]:
                found[(name, filled(pattern, known))] = True
        return sorted_facts(list(found))


def ever_lot(templates, place):
    """A party for a place; None if there is none ([G6])."""
    left, _ = cases_left(templates)
    own = [each for each in left if each.place == place]
    if not own:
        return None
    party = Party(templates, left)
    party.place_copy(min(own, key=classes_in), {})
    party.complete()
    return (party.facts(), tuple(party.copies))


def are_facts(templates, value):
    """Whether any value is the facts of a party."""
    if not isinstance(value, tuple):
        return False
    widths = {name: len(pattern) for wish in templates for name, pattern in wish[0][0]}
    if not all([is_fact(widths, fact) for fact in value]):
        return False
    ranks = [fact_rank(fact) for fact in value]
    return all([one < other for one, other in zip(ranks, ranks[1:])])


def is_copy(templates, facts, value):
    """Whether any value is a copy that has what its body asks for among facts, {fact: True}."""
    if not is_tuple(value, 2) or not is_integer(value[0]) or not 0 <= value[0] < len(templates):
        return False
    return is_answer_on(facts, templates[value[0]][0], value[1])


def are_made(templates, copies):
    """Whether each want of each copy is a saying of another one."""
    # {(word, row): [numbers of the copies that say it]}
    sayers = {}
    for number, (place, filling) in enumerate(copies):
        for told in {saying: True for saying in said(templates[place], filling)}:
            sayers.setdefault(told, []).append(number)
    for number, (place, filling) in enumerate(copies):
        for want in wanted(templates[place], filling):
            if sayers.get(want, []) in ([], [number]):
                return False
    return True


def ever_holds(templates, place, value):
    """Whether any value is a party for a place ([G6])."""
    if not is_tuple(value, 2) or not are_facts(templates, value[0]):
        return False
    facts, copies = {fact: True for fact in value[0]}, value[1]
    if not isinstance(copies, tuple) or not copies:
        return False
    if not all([is_copy(templates, facts, copy) for copy in copies]):
        return False
    return copies[0][0] == place and are_made(templates, copies)
