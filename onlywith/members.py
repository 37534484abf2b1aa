"""Members of a pool: who says what whom wants, who takes out what is in whose way, who clashes.

The members of a crowd are told by their places in it. A family of them is a number: its bit at a
place tells whether the member there is in the family. So one & other are the members that two
families have in common.
"""

from onlywith.stores import key_in, keys_of
from onlywith.wishes import own_clash, placed_writes, said, wanted


def places_of(family):
    """The places of the members of a family, ascending."""
    places = []
    while family:
        least = family & -family
        places.append(least.bit_length() - 1)
        family ^= least
    return places


def note(families, name, at):
    """Lets the member at a place be in the family of a name, in a dict {name: family}."""
    families[name] = families.get(name, 0) | (1 << at)


class Writers:
    """Which members have which facts as outs and as ins; writes are those of each member."""

    def __init__(self, store, writes):
        self.columns = keys_of(store[0])
        # {key: the fact of the store that has it}
        self.holders = {key_in(self.columns, fact): fact for fact in store[1]}
        # {fact: family} of the members that take the fact out, that bring it in.
        self.takers = {}
        self.bringers = {}
        for at, items in enumerate(writes):
            for sign, fact in items:
                note(self.takers if sign == "out" else self.bringers, fact, at)
        # {key: the unlike facts with this key that are ins}
        self.alike = {}
        for fact in self.bringers:
            self.alike.setdefault(key_in(self.columns, fact), []).append(fact)

    def ways_of(self, items):
        """{place of an in with a rival: the members that take the rival out}, of a member's writes."""
        found = {}
        for place, (sign, fact) in enumerate(items):
            key = key_in(self.columns, fact)
            if sign == "in" and key is not None and self.holders.get(key, fact) != fact:
                found[place] = self.takers.get(self.holders[key], 0)
        return found

    def against(self, items):
        """The members with a write that does not go together with one of a member's writes."""
        found = 0
        for sign, fact in items:
            opposed = self.bringers if sign == "out" else self.takers
            found |= opposed.get(fact, 0)
            key = key_in(self.columns, fact)
            if sign == "in" and key is not None:
                for other in self.alike[key]:
                    found |= self.bringers[other] if other != fact else 0
        return found


class Crowd:
    """Members of a pool on a store, and what each of them has to do with the others."""

    def __init__(self, store, pool, members):
        self.members = members
        self.places = {member: at for at, member in enumerate(members)}
        self.everyone = (1 << len(members)) - 1
        # {number: family} of the members of each wish of the pool.
        self.numbered = {number: 0 for number, _ in pool}
        for at, (number, _) in enumerate(members):
            note(self.numbered, number, at)
        # At each place: the members of the same number, among them the member itself.
        self.same = [self.numbered[number] for number, _ in members]
        wishes = dict(pool)
        deeds = [(wishes[number], filling) for number, filling in members]
        # At each place: whether the member clashes with itself.
        self.owns = [own_clash(store[0], wish, filling) is not None for wish, filling in deeds]
        # At each place, for each want: the members of other numbers that say it.
        self.wants = self.wants_of(deeds)
        writes = [placed_writes(wish, filling) for wish, filling in deeds]
        writers = Writers(store, writes)
        # At each place: {place of an in with a rival: the members that take the rival out}.
        self.ways = [writers.ways_of(items) for items in writes]
        # At each place: the members of other numbers with which the member clashes.
        self.clashes = [writers.against(items) & ~same for items, same in zip(writes, self.same)]
        # At each place: the families of each of which a member has to be in a lot with the member there.
        self.needs = [self.needs_of(at) for at in range(len(members))]

    def wants_of(self, deeds):
        """What wants is; deeds has the wish and the filling of each member."""
        sayers = {}
        for at, (wish, filling) in enumerate(deeds):
            for saying in said(wish, filling):
                note(sayers, saying, at)
        return [
            [sayers.get(want, 0) & ~same for want in wanted(wish, filling)]
            for (wish, filling), same in zip(deeds, self.same)
        ]

    def needs_of(self, at):
        """What needs is at a place."""
        if self.owns[at]:
            return [0]
        # Others of the same number cannot be in a lot with the member.
        others = ~self.same[at]
        ways = [takers & others for takers in list(self.ways[at].values()) if not takers & (1 << at)]
        return list(self.wants[at]) + ways

    def kept(self, family):
        """The greatest part of a family within which each of its members has what it needs."""
        ahead = -1
        while family != ahead:
            ahead = family
            for at in places_of(family):
                if not all([need & family for need in self.needs[at]]):
                    family ^= 1 << at
        return family

    def listed(self, family):
        """The members of a family, ascending."""
        return tuple([self.members[at] for at in places_of(family)])

    def reason(self, left, at):
        """The first reason to strike the member at a place that is true of it with left ([D2]); or None."""
        if self.owns[at]:
            return ("own",)
        for place, makers in enumerate(self.wants[at]):
            if not makers & left:
                return ("want", place)
        for place in self.ways[at]:
            if not self.ways[at][place] & left:
                return ("key", place)
        return None

    def is_true(self, left, at, word, place):
        """Whether the reason (word, place) is true of the member at a place, with left."""
        if word == "want":
            return 0 <= place < len(self.wants[at]) and not self.wants[at][place] & left
        return word == "key" and place in self.ways[at] and not self.ways[at][place] & left
