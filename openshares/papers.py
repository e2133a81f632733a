"""Papers of two persons, which show that these two need at least three numbers together."""

from openshares.copying import copied
from openshares.errors import BadGroup, IsSingle
from openshares.families import all_groups, contains, is_group, merged
from openshares.rows import goal_row, rank
from openshares.schemes import rows_of_group


class Paper:
    """A pair of persons, a chain of groups, and a part of the pair for each step of the chain."""

    def __init__(self, pair, chain, parts):
        self._pair = copied(pair)
        self._chain = copied(tuple(chain))
        self._parts = copied(tuple(parts))

    @property
    def pair(self):
        """The group of the two persons."""
        return copied(self._pair)

    @property
    def chain(self):
        """The tuple of the groups of the chain."""
        return copied(self._chain)

    @property
    def parts(self):
        """The tuple of the groups of persons of the pair."""
        return copied(self._parts)


def check_paper(family, paper):
    """Tell whether the paper is a paper of the family."""
    pair, groups, parts = paper.pair, paper.chain, paper.parts
    if not is_group(family.persons, pair) or len(pair) != 2:
        return False
    if not all([is_group(family.persons, group) and not family.opens(group) for group in groups]):
        return False
    if not all([is_group(pair, part) and part != () for part in parts]):
        return False
    if len(parts) != len(groups) - 1 or len(parts) < least_parts(family, pair, groups[0]):
        return False
    return all([is_step(family, before, group, part) for before, group, part in zip(groups, groups[1:], parts)])


def least_parts(family, pair, first):
    """Return how many parts a paper with this pair and this first group of the chain has at least."""
    return 2 if family.opens(merged(family.persons, pair, first)) else 3


def is_step(family, before, group, part):
    """Tell whether the group may follow the one before it in a chain, with this part of the pair."""
    if not contains(group, before) or family.opens(merged(family.persons, before, part)):
        return False
    return family.opens(merged(family.persons, group, part))


def paper_of(family):
    """Return a paper of the family."""
    blind = [group for group in all_groups(family.persons) if not family.opens(group)]
    for pair in [group for group in all_groups(family.persons) if len(group) == 2]:
        for first in blind:
            found = paper_from(family, blind, Paper(pair, [first], []))
            if found is not None:
                return found
    raise IsSingle()


def paper_from(family, blind, begun):
    """Return a paper of the family that goes on where this one ends, or None."""
    pair, groups, parts = begun.pair, begun.chain, begun.parts
    # A longer paper stays one if it is cut off here, so none of them is missed.
    if len(parts) == least_parts(family, pair, groups[0]):
        return begun
    greater = [group for group in blind if contains(group, groups[-1])]
    for part in all_groups(pair)[1:]:
        for group in greater:
            if is_step(family, groups[-1], group, part):
                found = paper_from(family, greater, Paper(pair, [*groups, group], [*parts, part]))
                if found is not None:
                    return found
    return None


def ranks(scheme, paper):
    """Return, for each group of the chain, what the rows of the pair add to its rank beside 1 0 .. 0."""
    pair, groups = paper.pair, paper.chain
    for value in [pair, *groups]:
        if not is_group(scheme.persons, value):
            raise BadGroup(value)
    return [
        rank_with_goal(scheme, merged(scheme.persons, group, pair)) - rank_with_goal(scheme, group) for group in groups
    ]


def rank_with_goal(scheme, group):
    """Return the rank of the rows of the group together with the row 1 0 .. 0."""
    return rank(scheme.prime, rows_of_group(scheme, group) + [goal_row(scheme.width)])
