"""Families and schemes put together, and schemes without a person."""

from openshares.errors import BadCount, BadGroup, DuplicateName, UnknownName, UnlikePersons, UnlikePrimes
from openshares.families import MOST_PERSONS, Family, merged, rest
from openshares.rows import MOST_WIDTH, less, reduced
from openshares.schemes import MOST_ROWS, Scheme


def put(family, name, other):
    """Return the family in which the persons of the other one take the place of a person."""
    check_person(family.persons, name)
    persons = put_persons(family.persons, name, other.persons)
    groups = []
    for group in family.groups:
        # The replaced name is taken away first: a person of the other family may have it, too.
        kept = rest(group, (name,))
        if name in group:
            groups.extend([merged(persons, kept, part) for part in other.groups])
        else:
            groups.append(kept)
    return Family(persons, groups)


def check_person(persons, name):
    """Raise UnknownName if there is no such person."""
    if name not in persons:
        raise UnknownName(name)


def put_persons(persons, name, new_persons):
    """Return the tuple, in ascending order, of the persons with the new ones in the place of this one."""
    others = rest(persons, (name,))
    for new in new_persons:
        if new in others:
            raise DuplicateName(new)
    many = len(others) + len(new_persons)
    if many > MOST_PERSONS:
        raise BadCount(many)
    return tuple(sorted(others + new_persons))


def put_scheme(scheme, name, other):
    """Return the scheme in which each share of a person is shared anew among the persons of the other one."""
    check_person(scheme.persons, name)
    check_like_prime(scheme, other)
    persons = put_persons(scheme.persons, name, other.persons)
    shared = scheme.rows(name)
    added = other.width - 1
    width = scheme.width + len(shared) * added
    sizes = {person: scheme.size(person) for person in rest(scheme.persons, (name,))}
    for person in other.persons:
        sizes[person] = len(shared) * other.size(person)
    check_bounds(width, sizes)
    rows = {}
    for person in persons:
        if person in other.persons:
            rows[person] = [
                placed(scheme.prime, width, row, scheme.width + at * added, part)
                for at, row in enumerate(shared) for part in other.rows(person)
            ]
        else:
            rows[person] = [row + (0,) * (width - scheme.width) for row in scheme.rows(person)]
    return Scheme(scheme.prime, width, rows)


def check_like_prime(scheme, other):
    """Raise UnlikePrimes if the other scheme has another prime."""
    if other.prime != scheme.prime:
        raise UnlikePrimes(other.prime)


def check_bounds(width, sizes):
    """Raise BadCount with the width, or with the greatest number of rows of a person, if it is too great."""
    if width > MOST_WIDTH:
        raise BadCount(width)
    most = max(list(sizes.values()))
    if most > MOST_ROWS:
        raise BadCount(most)


def placed(prime, width, secret, first, part):
    """Return the row of this width that makes a share by the row `part` of another scheme.

    The secret that the other scheme shares is made by the row `secret`, which stands at the
    beginning; the free numbers of the other scheme stand from the place `first` on.
    """
    shared = tuple([part[0] * number % prime for number in secret])
    begun = shared + (0,) * (first - len(shared)) + part[1:]
    return begun + (0,) * (width - len(begun))


def either(one, other):
    """Return the scheme in which both schemes share the secret."""
    width = one.width + other.width - 1
    check_pair(one, other, width)
    rows = placed_rows(one, width, (1,), 1)
    other_rows = placed_rows(other, width, (1,), one.width)
    return Scheme(one.prime, width, {name: rows[name] + other_rows[name] for name in one.persons})


def both(one, other):
    """Return the scheme in which one scheme shares a free number, and the other one the secret less it."""
    width = one.width + other.width
    check_pair(one, other, width)
    rows = placed_rows(one, width, (0, 1), 2)
    other_rows = placed_rows(other, width, (1, one.prime - 1), one.width + 1)
    return Scheme(one.prime, width, {name: rows[name] + other_rows[name] for name in one.persons})


def check_pair(one, other, width):
    """Raise what is wrong if the rows of both schemes cannot stand beside each other in this width."""
    if other.persons != one.persons:
        raise UnlikePersons(other.persons)
    check_like_prime(one, other)
    check_bounds(width, {name: one.size(name) + other.size(name) for name in one.persons})


def placed_rows(scheme, width, secret, first):
    """Return, for each person, the rows of this width that make the shares of what the row `secret` makes."""
    return {
        name: [placed(scheme.prime, width, secret, first, row) for row in scheme.rows(name)]
        for name in scheme.persons
    }


def left_out(scheme, name):
    """Return the scheme of the other persons, with their rows."""
    check_person(scheme.persons, name)
    # If no person is left, restricted raises the very error that is due.
    return scheme.restricted(rest(scheme.persons, (name,)))


def published_scheme(scheme, name):
    """Return a scheme of the other persons in which a group opens if it opens here together with this person."""
    check_person(scheme.persons, name)
    if scheme.opens((name,)):
        raise BadGroup((name,))
    # Each known row makes one number of the dealer's row a sum of the others, whose place is then
    # left out. Read from behind, a row never leads with the secret: else the person would open.
    known = reduced(scheme.prime, [row[::-1] for row in scheme.rows(name)])
    rows = {
        other: [published_row(scheme.prime, known, row) for row in scheme.rows(other)]
        for other in rest(scheme.persons, (name,))
    }
    # If no person is left, Scheme raises the very error that is due.
    return Scheme(scheme.prime, scheme.width - len(known), rows)


def published_row(prime, known, row):
    """Return what is left of the row without the places that the known rows, read from behind, lead with."""
    left = row[::-1]
    for lead, taken in known:
        left = less(prime, left, left[lead], taken)
    leads = [lead for lead, _ in known]
    return tuple([number for at, number in enumerate(left) if at not in leads])[::-1]
