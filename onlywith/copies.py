"""Copies: how many of them the smallest party for a template has ([G7]).

A draft is a tuple of copies (place, row) whose rows may have variables: each is marked with the number
of the copy that it came with. Variables stand for values that are unlike one another, and no constants.
"""

from onlywith.bounds import MAX_COPIES
from onlywith.errors import NoUnifier, TooMany
from onlywith.ever import cases_left
from onlywith.kinds import constants_of, kind_in, variables_at
from onlywith.terms import is_free
from onlywith.unifying import marked, unified
from onlywith.wishes import said, wanted


def lacks_of(templates, draft):
    """The pairs (number, want) of the wants of copies that no other copy says, each once."""
    # {saying: [numbers of the copies that say it]}, and {(number, want): True}
    sayers, wants = {}, {}
    for number, (place, row) in enumerate(draft):
        for told in {saying: True for saying in said(templates[place], row)}:
            sayers.setdefault(told, []).append(number)
        for want in wanted(templates[place], row):
            wants[(number, want)] = True
    return [(number, want) for number, want in wants if sayers.get(want, []) in ([], [number])]


def form_of(wish):
    """What a template tests, says and wants, with its variables numbered as they come."""
    (_, tests), sayings, wants, _ = wish
    spoken = [(word,) + pattern for word, pattern in sayings + (("", ()),) + wants]
    numbers = {}
    found = []
    for item in list(tests) + spoken:
        found.append(tuple([numbers.setdefault(term, (len(numbers),)) if is_free(term) else term for term in item]))
    return tuple(found)


def becomes(kind, other):
    """Whether a kind is another one where some of its classes are one, or are constants."""
    items = {}
    for item, new in zip(kind, other):
        same = items.setdefault(item, new) if isinstance(item, tuple) else item
        if same != new:
            return False
    return True


class PartySearch:
    """A search for small parties, of copies whose kinds are left in the greatest family."""

    def __init__(self, templates, left):
        self.templates = templates
        self.constants = constants_of(templates)
        # {place: [kind left]}
        self.kinds = {}
        for each in left:
            self.kinds.setdefault(each.place, []).append(each.kind)
        # Of templates that are alike one is enough for all copies behind the first one.
        firsts = {}
        for place in self.kinds:
            firsts.setdefault(form_of(templates[place]), place)
        self.firsts = list(firsts.values())
        # {(place, kind): whether it becomes some kind left}
        self.memory = {}

    def may_be(self, place, row):
        """Whether the kind of a copy with a row becomes some kind left."""
        kind = kind_in(self.constants, row)
        if (place, kind) not in self.memory:
            self.memory[(place, kind)] = any([becomes(kind, other) for other in self.kinds[place]])
        return self.memory[(place, kind)]

    def with_alike(self, draft, equations):
        """The draft in which equations hold; None if they cannot."""
        try:
            terms = dict(unified(equations))
        except NoUnifier:
            return None
        found = tuple([(place, tuple([terms.get(term, term) for term in row])) for place, row in draft])
        for (_, before), (place, row) in zip(draft, found):
            if row != before and not self.may_be(place, row):
                return None
        return found

    def with_copy(self, draft, place):
        """The draft with one more copy of the template at a place, of which its tests alone are known."""
        number = len(draft)
        row = marked(variables_at(self.templates, place), number)
        tests = self.templates[place][0][1]
        equations = [marked((one, other), number) for sign, one, other in tests if sign == "="]
        return self.with_alike(draft + ((place, row),), tuple(equations))

    def makers(self, draft, many):
        """The triples (draft, number, sayings) of the copies that could make wants, with one more copy or as it is."""
        found = [(draft, number) for number in range(len(draft))]
        if len(draft) < many:
            found.extend([(self.with_copy(draft, place), len(draft)) for place in self.firsts])
        return [(wider, number, said(self.templates[wider[number][0]], wider[number][1])) for wider, number in found]

    def ways(self, makers, number, want):
        """The drafts in which another one of the makers makes a want of the copy of a number."""
        found = {}
        for wider, other, sayings in makers:
            for word, told in sayings:
                if other != number and word == want[0] and len(told) == len(want[1]):
                    found[self.with_alike(wider, tuple(zip(want[1], told)))] = True
        return [way for way in found if way is not None]

    def has_party(self, draft, many):
        """Whether a party of at most so many copies comes of a draft."""
        makers = self.makers(draft, many)
        choices = []
        for number, want in lacks_of(self.templates, draft):
            choices.append(self.ways(makers, number, want))
            # No want can have fewer ways than none; with one way there is no choice.
            if len(choices[-1]) < 2:
                break
        if not choices:
            return True
        # The want with the fewest ways tells soonest that there is no party.
        for way in min(choices, key=len):
            if self.has_party(way, many):
                return True
        return False


def least_copies(templates, place):
    """The least number of copies that a party for a place has; None if there is no party ([G7])."""
    left, _ = cases_left(templates)
    search = PartySearch(templates, left)
    if place not in search.kinds:
        return None
    first = search.with_copy((), place)
    for many in range(1, MAX_COPIES + 1):
        if search.has_party(first, many):
            return many
    raise TooMany(MAX_COPIES)
