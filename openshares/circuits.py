"""Circuits of a family, and whether it is a port."""

from openshares.errors import BadGroup
from openshares.families import all_groups, contains, is_group, least_groups, merged

# The dealer among the members of a circuit. It is not a name, and comes before all names.
DEALER = ""


def rounds(family):
    """Return the list, in order, of the rounds of the family."""
    found = [
        round_of(family, one, other) for at, one in enumerate(family.groups) for other in family.groups[at + 1:]
    ]
    return list(least_groups(family.persons, found))


def round_of(family, one, other):
    """Return the persons of two least groups who are not in all least groups that lie in both together."""
    whole = merged(family.persons, one, other)
    inside = [group for group in family.groups if contains(whole, group)]
    return tuple([name for name in whole if not all([name in group for group in inside])])


def circuits(family):
    """Return the list of the circuits: the least groups, each with the dealer, and then the rounds."""
    return [(DEALER, *group) for group in family.groups] + rounds(family)


def holds_circuit(known, members):
    """Tell whether one of the known circuits has no other members than these."""
    return any([contains(members, circuit) for circuit in known])


def port_gap(family):
    """Return the first tuple (one, other, member) that shows that the family is no port, or None."""
    known = circuits(family)
    pairs = [(one, other) for one in known for other in known if one != other]
    for one, other in pairs:
        if contains(other, one):
            return (one, other, None)
    for one, other in pairs:
        for member in one:
            if member in other and not holds_circuit(known, joined(one, other, member)):
                return (one, other, member)
    return None


def joined(one, other, member):
    """Return the members of two circuits, except this one."""
    return tuple([item for item in one + other if item != member])


def is_port(family):
    """Tell whether the family is a port."""
    return port_gap(family) is None


def port_rank(family, group):
    """Return the greatest number of needed persons of the group who do not have all members of a circuit."""
    if not is_group(family.persons, group):
        raise BadGroup(group)
    known = circuits(family)
    needed = tuple([name for name in group if name in family.needed])
    return max([len(part) for part in all_groups(needed) if not holds_circuit(known, part)])
