"""Schemes: the rows by which the shares of each person come about, and which groups open with them."""

from openshares.errors import BadCount, BadGroup, BadRow, UnknownName
from openshares.families import Family, all_groups, checked_persons, is_group
from openshares.rows import blind_row, check_prime, check_width, combined, factors_for
from openshares.rows import goal_row, has_numbers, is_number, is_whole, product, rank

MOST_ROWS = 16


class Scheme:
    """A prime, a width, and rows of this width for each person. A scheme never changes."""

    def __init__(self, prime, width, rows):
        check_prime(prime)
        check_width(width, [])
        persons = checked_persons(sorted(rows))
        for name in persons:
            check_rows_of_person(prime, width, rows[name])
        self._prime = prime
        self._width = width
        self._persons = persons
        self._rows = {name: tuple(rows[name]) for name in persons}

    @property
    def prime(self):
        """The prime."""
        return self._prime

    @property
    def width(self):
        """The width of all rows."""
        return self._width

    @property
    def persons(self):
        """The tuple of the persons in ascending order."""
        return self._persons

    def __eq__(self, other):
        if not isinstance(other, Scheme):
            return False
        # Equal dicts have the same persons, too.
        return self._prime == other._prime and self._width == other._width and self._rows == other._rows

    def rows(self, name):
        """Return the list of the rows of a person."""
        if name not in self._persons:
            raise UnknownName(name)
        return list(self._rows[name])

    def size(self, name):
        """Return the number of the rows of a person."""
        return len(self.rows(name))

    def rank(self, group):
        """Return the rank of the rows of all persons of a group."""
        return rank(self._prime, rows_of_group(self, group))

    def opens(self, group):
        """Tell whether the rows of the group, multiplied by factors, add up to the row 1 0 0 .. 0."""
        return goal_factors(self, group) is not None

    def factors(self, group):
        """Return the factors other than 0, by (name, number) of their row, that show that the group opens."""
        found = goal_factors(self, group)
        if found is None:
            return None
        places = [(name, number) for name in group for number in range(self.size(name))]
        return {place: factor for place, factor in zip(places, found) if factor != 0}

    def blind(self, group):
        """Return a row that shows that the group is blind, or None if it opens."""
        return blind_row(self._prime, rows_of_group(self, group), self._width)

    def family(self):
        """Return the family of the groups that open."""
        return Family(self._persons, [group for group in all_groups(self._persons) if self.opens(group)])

    def restricted(self, names):
        """Return the scheme of these persons alone, with their rows."""
        # If there is no name, Scheme raises the very error that is due.
        return Scheme(self._prime, self._width, {name: self.rows(name) for name in names})


def check_rows_of_person(prime, width, rows):
    """Raise what is wrong with the rows of a person."""
    if len(rows) > MOST_ROWS:
        raise BadCount(len(rows))
    for value in rows:
        if not has_numbers(prime, value, width):
            raise BadRow(value)


def rows_of_group(scheme, group):
    """Return the list of the rows of all persons of the group, or raise if it is no group."""
    if not is_group(scheme.persons, group):
        raise BadGroup(group)
    return [row for name in group for row in scheme.rows(name)]


def goal_factors(scheme, group):
    """Return a factor for each row of the group, with which they add up to 1 0 0 .. 0, or None."""
    return factors_for(scheme.prime, rows_of_group(scheme, group), goal_row(scheme.width))


def check_factors(scheme, group, factors):
    """Tell whether the factors, by (name, number) of their row, show that the group opens."""
    if not is_group(scheme.persons, group):
        raise BadGroup(group)
    if factors == {} or not all([is_row_of(scheme, group, name, number) for name, number in factors]):
        return False
    if not all([is_number(scheme.prime, factor) and factor != 0 for factor in factors.values()]):
        return False
    rows = [scheme.rows(name)[number] for name, number in factors]
    return combined(scheme.prime, list(factors.values()), rows) == goal_row(scheme.width)


def is_row_of(scheme, group, name, number):
    """Tell whether a person of the group has a row with this number."""
    return name in group and is_whole(number) and 0 <= number < scheme.size(name)


def check_blind(scheme, group, row):
    """Tell whether the row, which may be any value, shows that the group is blind."""
    rows = rows_of_group(scheme, group)
    if not has_numbers(scheme.prime, row, scheme.width) or row[0] != 1:
        return False
    return all([product(scheme.prime, row, other) == 0 for other in rows])


def fits(scheme, family):
    """Tell whether just the groups open in the scheme that open in the family, for the same persons."""
    if scheme.persons != family.persons:
        return False
    return all([scheme.opens(group) == family.opens(group) for group in all_groups(scheme.persons)])
