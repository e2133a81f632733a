"""Groups of persons, and families: which groups open the secret."""

from openshares.errors import BadCount, BadGroup, BadName, BadText, DuplicateName
from openshares.errors import NoGroup, ShareError, UnknownName, UnlikePersons
from openshares.naming import valid_name

MOST_PERSONS = 5


def all_groups(persons):
    """Return the list of all groups of the persons, in order."""
    groups = [()]
    for name in persons:
        groups = groups + [group + (name,) for group in groups]
    # Sorting keeps the order of equal keys, so groups of one length stay in order.
    return sorted(sorted(groups), key=len)


def is_group(persons, value):
    """Tell whether the value, which may be any value, is a group of the persons."""
    if not isinstance(value, tuple):
        return False
    return value == tuple([name for name in persons if name in value])


def rest(persons, group):
    """Return the group of the persons who are not in the group."""
    return tuple([name for name in persons if name not in group])


def contains(group, other):
    """Tell whether the group has all persons of the other one."""
    return all([name in group for name in other])


def merged(persons, one, other):
    """Return the group of the persons who are in one group or in the other."""
    return tuple([name for name in persons if name in one or name in other])


def checked_persons(persons):
    """Return the names as a tuple in ascending order, or raise what is wrong with them."""
    if not 1 <= len(persons) <= MOST_PERSONS:
        raise BadCount(len(persons))
    for at, name in enumerate(persons):
        if not valid_name(name):
            raise BadName(name)
        if name in persons[:at]:
            raise DuplicateName(name)
    return tuple(sorted(persons))


def check_groups(persons, groups):
    """Raise what is wrong with the groups that shall open."""
    if len(groups) == 0:
        raise NoGroup()
    for value in groups:
        if value == () or not is_group(persons, value):
            raise BadGroup(value)


def least_groups(persons, groups):
    """Return the tuple, in order, of those groups that contain no other of them."""
    # Picking from all groups puts the given ones in order and takes each of them once.
    given = [group for group in all_groups(persons) if group in groups]
    return tuple([group for group in given if not contains_another(group, given)])


def contains_another(group, groups):
    """Tell whether the group contains one of the groups besides itself."""
    return any([other != group and contains(group, other) for other in groups])


class Family:
    """Which groups of a few persons open the secret. A family never changes."""

    def __init__(self, persons, groups):
        names = checked_persons(persons)
        check_groups(names, groups)
        least = least_groups(names, groups)
        self._persons = names
        self._groups = least
        self._needed = tuple([name for name in names if any([name in group for group in least])])

    @classmethod
    def threshold(cls, persons, many):
        """Return the family of the groups of at least so many persons."""
        names = checked_persons(persons)
        # True is not an integer here, although Python counts it as 1.
        if isinstance(many, bool) or not 1 <= many <= len(names):
            raise BadCount(many)
        return cls(names, [group for group in all_groups(names) if len(group) == many])

    @classmethod
    def read(cls, text):
        """Return the family with this text."""
        persons, _, groups = text.partition(": ")
        try:
            family = cls(persons.split(" "), [tuple(part.split(" ")) for part in groups.split(" / ")])
        except ShareError:
            raise BadText(text) from None
        # A family has only one text; this refuses all others that name its persons and groups.
        if str(family) != text:
            raise BadText(text)
        return family

    @property
    def persons(self):
        """The tuple of the persons in ascending order."""
        return self._persons

    @property
    def groups(self):
        """The tuple of the least groups in order."""
        return self._groups

    @property
    def needed(self):
        """The tuple of the persons, in ascending order, who are in a least group."""
        return self._needed

    def __eq__(self, other):
        return isinstance(other, Family) and self._persons == other._persons and self._groups == other._groups

    def __str__(self):
        persons = " ".join(self._persons)
        groups = " / ".join([" ".join(group) for group in self._groups])
        return f"{persons}: {groups}"

    def __or__(self, other):
        if self._persons != other._persons:
            raise UnlikePersons(other._persons)
        return Family(self._persons, self._groups + other._groups)

    def __and__(self, other):
        if self._persons != other._persons:
            raise UnlikePersons(other._persons)
        names = self._persons
        return Family(names, [merged(names, one, two) for one in self._groups for two in other._groups])

    def opens(self, group):
        """Tell whether the group contains a least group."""
        if not is_group(self._persons, group):
            raise BadGroup(group)
        return any([contains(group, least) for least in self._groups])

    def turned(self):
        """Return the family of the groups whose rest does not open."""
        names = self._persons
        # The empty group is never among them: its rest, all persons, opens.
        return Family(names, [group for group in all_groups(names) if not self.opens(rest(names, group))])

    def without(self, name):
        """Return the family of the other persons, who open as before."""
        others = self._others(name)
        # If no person or no group is left, Family raises the very error that is due.
        return Family(others, [group for group in self._groups if name not in group])

    def published(self, name):
        """Return the family of the other persons if all know the shares of this person."""
        others = self._others(name)
        if (name,) in self._groups:
            raise BadGroup((name,))
        return Family(others, [rest(group, (name,)) for group in self._groups])

    def _others(self, name):
        """Return the group of the other persons, or raise if there is no such person."""
        if name not in self._persons:
            raise UnknownName(name)
        return rest(self._persons, (name,))
