"""A second, independent reckoning of circuits, ports and papers, by the words of their points."""

from functools import cache
from itertools import combinations, product

from tests.samples import NAMES, opening, subsets


def least_sets(sets):
    """The sets that contain no other one, each once, ordered as groups are."""
    kept = {one for one in sets if not any(other < one for other in sets)}
    return sorted((tuple(sorted(one)) for one in kept), key=lambda group: (len(group), group))


def rounds_of(family):
    """Point 42."""
    least = [frozenset(group) for group in family.groups]
    found = []
    for one, other in combinations(least, 2):
        inside = [group for group in least if group <= one | other]
        found.append((one | other) - frozenset.intersection(*inside))
    return least_sets(found)


def circuits_of(family):
    """Point 43."""
    return [("",) + group for group in family.groups] + rounds_of(family)


def gaps_of(family):
    """Point 44: all tuples that show that the family is no port, in order."""
    known = circuits_of(family)
    pairs = [(one, other) for one in known for other in known if one != other]
    inside = [(one, other, None) for one, other in pairs if set(one) <= set(other)]
    if inside:
        return inside
    return [
        (one, other, member)
        for one, other in pairs
        for member in sorted(set(one) & set(other))
        if not any(set(circuit) <= set(one + other) - {member} for circuit in known)
    ]


def rank_of(family, group):
    """Point 46."""
    known = [set(circuit) for circuit in circuits_of(family)]
    needed = {name for least in family.groups for name in least}
    return max(
        len(part) for part in subsets(group)
        if set(part) <= needed and not any(circuit <= set(part) for circuit in known)
    )


def union(*groups):
    return tuple(sorted(set().union(*groups)))


def is_paper(family, pair, chain, parts):
    """Point 50, for any values in their places."""
    groups, opens = subsets(family.persons), opening(family)
    if len(parts) != len(chain) - 1 or pair not in groups or len(pair) != 2:
        return False
    if any(group not in groups or group in opens for group in chain):
        return False
    if any(part not in subsets(pair)[1:] for part in parts):
        return False
    for before, group, part in zip(chain, chain[1:], parts):
        if not set(before) <= set(group) or union(group, part) not in opens or union(before, part) in opens:
            return False
    return len(parts) >= (2 if union(pair, chain[0]) in opens else 3)


def stepped(family, pair, most):
    """All chains of blind groups with parts of the pair whose steps are those of point 50, of up to so many parts."""
    opens = opening(family)
    blind = [group for group in subsets(family.persons) if group not in opens]
    found = [([group], []) for group in blind]
    for chain, parts in found:
        if len(parts) < most:
            found += [
                (chain + [group], parts + [part])
                for group in blind if set(chain[-1]) <= set(group)
                for part in subsets(pair)[1:] if union(group, part) in opens and union(chain[-1], part) not in opens
            ]
    return found


def single_openings(prime, many):
    """The sets of the groups that open in the single schemes over the prime for the first so many persons.

    In terms of a base that begins with the row 1 0 .. 0, each row is one that the rows before it
    make with that row, or the next one of the base; multiples of a row do as well as the row.
    """
    persons = NAMES[:many]
    found = set()
    waiting = [((), 1)]
    while waiting:
        rows, size = waiting.pop()
        if len(rows) < many:
            waiting += [(rows + (row,), size) for row in [None, *directions(prime, size)]]
            waiting.append((rows + ((0,) * size + (1,),), size + 1))
        else:
            found.add(frozenset(
                group for group in subsets(persons)
                if makes_goal(prime, frozenset(rows[persons.index(name)] for name in group))
            ))
    return found


@cache
def directions(prime, size):
    """The rows of this width whose first number other than 0 is 1."""
    rows = product(range(prime), repeat=size)
    return [row for row in rows if next((number for number in row if number), 0) == 1]


@cache
def makes_goal(prime, rows):
    """Tell whether the rows, padded with zeros to one width, add up to 1 0 .. 0 if each is multiplied by a factor."""
    width = max([len(row) for row in rows if row is not None], default=1)
    left = [list(row) + [0] * (width - len(row)) for row in rows if row is not None]
    for at in range(1, width):
        leads = [row for row in left if row[at]]
        if leads:
            lead = leads[0]
            left = [
                [(x * lead[at] - y * row[at]) % prime for x, y in zip(row, lead)] for row in left if row is not lead
            ]
    # Now all numbers are 0 but the first ones.
    return any(row[0] for row in left)
