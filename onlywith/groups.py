"""Groups: the first one of a pool ([E5])."""

from onlywith.bounds import MAX_POOL
from onlywith.errors import TooMany
from onlywith.members import Crowd, places_of
from onlywith.strikes import candidates


class Search:
    """A search for groups in a crowd.

    What is left are the members that may be in the group, what is settled those that are.
    """

    def __init__(self, crowd):
        self.crowd = crowd
        # Families of each of which a member has to be in the group; that of its least number comes first.
        self.musts = []
        # At each place: the needs that the member there meets, as pairs (place of who needs it, need).
        self.uses = [[] for _ in crowd.members]
        for at, needs in enumerate(crowd.needs):
            for need in needs:
                for helper in places_of(need):
                    self.uses[helper].append((at, need))

    def seek(self, left, musts):
        """A group of members left with one of each of the musts; 0 if there is none."""
        self.musts = musts
        return self.search(left, 0)

    def search(self, left, settled):
        """A group of members left, the settled ones among them; 0 if there is none."""
        left, found = self.narrowed(left, settled)
        if found or settled & ~left:
            return found
        for at in places_of(self.choices(left, settled)):
            member = 1 << at
            with_it = left & ~self.crowd.same[at] & ~self.crowd.clashes[at]
            found = self.search(with_it | member, settled | member)
            if found:
                return found
            left ^= member
        return 0

    def narrowed(self, left, settled):
        """The members left that may be in a group with the settled ones, and such a group or 0.

        No member is left if there is no such group.
        """
        ahead = -1
        while left != ahead:
            ahead = left
            left = self.crowd.kept(left)
            if not settled:
                return (left, 0)
            left = self.needed(self.reached(left, settled & self.musts[0]), settled)
            if settled & ~left:
                return (0, 0)
            standing = self.standing(settled)
            if standing:
                return (0, settled if self.is_group(settled) else 0)
            for at in places_of(left & ~settled):
                # With a part that stands nothing further may be in the group.
                wider = settled | (1 << at)
                if self.standing(wider):
                    if self.is_group(wider):
                        return (left, wider)
                    left ^= 1 << at
        return (left, 0)

    def reached(self, left, family):
        """The members left that a family needs, those that these need, and so on; a group has no others."""
        found, further = 0, family & left
        while further:
            found |= further
            needed = 0
            for at in places_of(further):
                for need in self.crowd.needs[at]:
                    needed |= need
            further = needed & left & ~found
        return found

    def uses_of(self, left, settled, at):
        """The uses of a settled member of which it may be the only one that meets the need.

        Without such a use the others of the group would stand alone, so for each settled member, but that
        of the least number, the need of one of these uses is one of the group's.
        """
        member = 1 << at
        return [use for use in self.uses[at] if left & (1 << use[0]) and use[1] & settled == member]

    def needed(self, left, settled):
        """The members left that may be in a group in which each settled one is needed; none if none may."""
        for at in places_of(settled & ~self.musts[0]):
            uses = self.uses_of(left, settled, at)
            if not uses:
                return 0
            # Whoever else meets all of these needs would leave it without a use.
            common = left & ~(1 << at)
            for _, need in uses:
                common &= need
            left &= ~common
        return left

    def standing(self, family):
        """The greatest part that stands of a family without clashes; 0 if it lacks the least number."""
        first = family & self.musts[0]
        # Most families lack what the first member needs, which is soon seen.
        if not first or not all([need & family for need in self.crowd.needs[places_of(first)[0]]]):
            return 0
        part = self.crowd.kept(family)
        return part if part & first else 0

    def is_group(self, family):
        """Whether a family, some part of which stands, is a group with a member of each of the musts."""
        if not all([must & family for must in self.musts]):
            return False
        # Whoever is not in the part that stands could go, too.
        others = places_of(family & ~self.musts[0])
        return not any([self.standing(family ^ (1 << at)) for at in others])

    def choices(self, left, settled):
        """The fewest members left of which one has to be in a group with the settled ones."""
        if not settled:
            # All else is told from the member of the least number on.
            return self.musts[0] & left
        needs = [need for at in places_of(settled) for need in self.crowd.needs[at]]
        for at in places_of(settled & ~self.musts[0]):
            users = 0
            for who, _ in self.uses_of(left, settled, at):
                users |= 1 << who
            needs.append(users)
        unmet = [family & left for family in self.musts + needs if not family & settled]
        return min(unmet, key=lambda family: len(places_of(family)))


def with_first_numbers(search, left, group):
    """A group with the numbers of the first group, what is left of these, and a family for each of them.

    group is any one with the least number of the first group; no member left has a number below it.
    """
    musts, exact = [], 0
    for family in list(search.crowd.numbered.values()):
        found = group if group & family else search.seek(left, musts + [family])
        if not found:
            left &= ~family
            continue
        group, musts, exact = found, musts + [family], exact | (family & left)
        # A tuple of numbers comes ahead of those that it begins.
        found = group if not group & ~exact else search.seek(exact, musts)
        if found:
            return (found, exact, musts)
    return (group, exact, musts)


def with_first_fillings(search, group, left, musts):
    """The first group with the numbers of a group; what is left are the members of these numbers."""
    for family in musts:
        for at in places_of(family & left):
            fewer = (left & ~family) | (1 << at)
            found = group if not group & ~fewer else search.seek(fewer, musts)
            if found:
                group, left = found, fewer
                break
    return group


def first_family(crowd):
    """The first group of a crowd; 0 if there is none."""
    search = Search(crowd)
    left = crowd.kept(crowd.everyone)
    for family in list(crowd.numbered.values()):
        group = search.seek(left, [family])
        if group:
            group, left, musts = with_first_numbers(search, left, group)
            return with_first_fillings(search, group, left, musts)
        left &= ~family
    return 0


def pool_crowd(store, pool):
    """The crowd of all members of a pool that is small enough for a search."""
    if len(pool) > MAX_POOL:
        raise TooMany(MAX_POOL)
    return Crowd(store, pool, candidates(store, pool))


def first_group(store, pool):
    """The first group of the pool on a store; None if there is none ([E5])."""
    crowd = pool_crowd(store, pool)
    group = first_family(crowd)
    return crowd.listed(group) if group else None
