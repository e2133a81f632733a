"""Schemes for families: plain ones and those of thresholds, turned ones and lean ones."""

from openshares.errors import BadPrime
from openshares.families import Family
from openshares.rows import check_prime, rank
from openshares.schemes import Scheme


def plain_scheme(family, prime):
    """Return a scheme in which the secret is a sum of numbers of their own for each least group."""
    check_prime(prime)
    width = 1 + sum([len(group) - 1 for group in family.groups])
    rows = {name: [] for name in family.persons}
    first = 1
    for group in family.groups:
        for name, row in zip(group, sum_rows(prime, width, first, len(group))):
            rows[name].append(row)
        first = first + len(group) - 1
    return Scheme(prime, width, rows)


def sum_rows(prime, width, first, many):
    """Return so many rows that add up to 1 0 .. 0; all but the last take one free place each, from the first on."""
    free = range(first, first + many - 1)
    rows = [tuple([1 if at == place else 0 for at in range(width)]) for place in free]
    last = tuple([prime - 1 if at in free else 0 for at in range(1, width)])
    return rows + [(1, *last)]


def threshold_scheme(persons, many, prime):
    """Return a scheme for the groups of at least so many persons, in which each person has one row."""
    names = Family.threshold(persons, many).persons
    check_prime(prime)
    # The numbers of the persons must differ modulo the prime, and none of them may be 0.
    if prime <= len(names):
        raise BadPrime(prime)
    return Scheme(prime, many, {name: [powers(prime, at + 1, many)] for at, name in enumerate(names)})


def powers(prime, number, many):
    """Return the tuple of so many powers of the number modulo the prime, from 1 on."""
    found = [1]
    while len(found) < many:
        found.append(found[-1] * number % prime)
    return tuple(found)


def turned_scheme(scheme):
    """Return a scheme, with as many rows, for the groups whose rest does not open in this one."""
    shown = [scheme.factors(group) for group in scheme.family().groups]
    rows = {
        name: [turned_row(scheme.prime, shown, (name, number)) for number in range(scheme.size(name))]
        for name in scheme.persons
    }
    return Scheme(scheme.prime, len(shown), rows)


def turned_row(prime, shown, place):
    """Return the row at this place of the turned scheme, from the factors that show each least group."""
    # A group opens if a row of numbers for its places has the product 1 with the factors of each
    # least group: one that lies in the rest has the product 0, and if none does, the shares of a
    # dealer's row that is blind for the rest are such numbers. Taking the first from the others
    # makes the row 1 1 .. 1, which is to be reached, the row 1 0 .. 0.
    factors = [known.get(place, 0) for known in shown]
    others = [(factor - factors[0]) % prime for factor in factors[1:]]
    return (factors[0], *others)


def lean_scheme(scheme):
    """Return a scheme with the same family, without the rows that the person's rows before them make."""
    # No one needs the family here, but it raises the very error that is due if nobody opens.
    scheme.family()
    rows = {name: lean_rows(scheme.prime, scheme.rows(name)) for name in scheme.persons}
    return Scheme(scheme.prime, scheme.width, rows)


def lean_rows(prime, rows):
    """Return the list of those rows that are no sum of multiples of the rows before them."""
    kept = []
    for row in rows:
        if rank(prime, kept + [row]) > len(kept):
            kept.append(row)
    return kept
