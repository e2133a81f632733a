"""Schemes with at most one row for each person."""

from openshares.circuits import DEALER, circuits, holds_circuit, is_port
from openshares.errors import NotSingle
from openshares.families import all_groups, rest
from openshares.papers import paper_of
from openshares.schemes import Scheme

# Every port of so few persons has a single scheme over one of these.
SINGLE_PRIMES = (2, 3, 5)


def is_single(scheme):
    """Tell whether each person has at most one row."""
    return all([scheme.size(name) <= 1 for name in scheme.persons])


def least_prime(family):
    """Return the least of the primes 2, 3 and 5 over which a single scheme has the family, or None."""
    scheme = single_scheme(family)
    return None if scheme is None else scheme.prime


def one_each(family):
    """Return a single scheme with the family, over its least prime, in which just the needed persons have a row."""
    scheme = single_scheme(family)
    if scheme is None:
        raise NotSingle(paper_of(family))
    return scheme


def single_scheme(family):
    """Return the scheme of one_each, or None if there is none."""
    if not is_port(family):
        return None
    known = circuits(family)
    base = base_of(family, known)
    for prime in SINGLE_PRIMES:
        found = scheme_over(family, prime, known, base)
        if found is not None:
            return found
    return None


def base_of(family, known):
    """Return the dealer and as many needed persons as can be without having all members of a circuit."""
    base = (DEALER,)
    for name in family.needed:
        if not holds_circuit(known, (*base, name)):
            base = (*base, name)
    return base


def scheme_over(family, prime, known, base):
    """Return a single scheme of a port over this prime, or None."""
    width = len(base)
    rows = {name: [] for name in family.persons}
    # The rows of the base can be taken for 1 0 .. 0, 0 1 .. 0 and so on: in these terms each other
    # row is a sum of multiples of them, and just those members count who can be exchanged for it.
    for at in range(1, width):
        rows[base[at]] = [(0,) * at + (1,) + (0,) * (width - at - 1)]
    others = [name for name in family.needed if name not in base]
    choices = [(name, rows_with(prime, exchangeable(known, base, name))) for name in others]
    return completed(family, Scheme(prime, width, rows), choices)


def exchangeable(known, base, name):
    """Return, for each member of the base, whether the person in its place makes a base, too."""
    return [not holds_circuit(known, base[:at] + base[at + 1:] + (name,)) for at in range(len(base))]


def rows_with(prime, wanted):
    """Return the list of the rows with numbers other than 0 just where it is wanted, the first of them 1."""
    rows = [()]
    for at, is_wanted in enumerate(wanted):
        numbers = [0]
        if is_wanted:
            # A multiple of a row does as well as the row, so one of them is enough.
            numbers = list(range(1, prime)) if any(wanted[:at]) else [1]
        rows = [(*row, number) for row in rows for number in numbers]
    return rows


def completed(family, scheme, choices):
    """Return the scheme with one of the rows for each person of the choices, if it has the family, or None."""
    settled = rest(family.persons, [name for name, _ in choices])
    if not all([scheme.opens(group) == family.opens(group) for group in all_groups(settled)]):
        return None
    if choices == []:
        return scheme
    name, rows = choices[0]
    for row in rows:
        found = completed(family, with_row(scheme, name, row), choices[1:])
        if found is not None:
            return found
    return None


def with_row(scheme, name, row):
    """Return the scheme in which this person has this row alone."""
    rows = {other: scheme.rows(other) for other in scheme.persons}
    rows[name] = [row]
    return Scheme(scheme.prime, scheme.width, rows)
