"""Books, which keep a family that can be changed."""

from openshares.errors import BadGroup, BadName, DuplicateName, NothingToUndo
from openshares.families import Family, is_group
from openshares.joining import put
from openshares.naming import valid_name
from openshares.verdicts import judge


class Book:
    """A family that can be changed, and the changes that can be taken back."""

    def __init__(self, family):
        self._now = family
        self._earlier = []

    def __len__(self):
        return len(self._earlier)

    def __contains__(self, x):
        return is_group(self._now.persons, x) and self._now.opens(x)

    def family(self):
        """Return the family as it is now."""
        return self._now

    def verdict(self):
        """Return the verdict of the family as it is now."""
        return judge(self._now)

    def put_group(self, group):
        """Let the group open, and all groups that contain it."""
        # The least groups are all right, so a BadGroup of Family tells this very group.
        self._change(Family(self._now.persons, self._now.groups + (group,)))

    def drop_group(self, group):
        """Take a least group away."""
        if group not in self._now.groups:
            raise BadGroup(group)
        # If there is no other least group, Family raises the very error that is due.
        self._change(Family(self._now.persons, [least for least in self._now.groups if least != group]))

    def put_person(self, name):
        """Add a person who is in no least group."""
        if not valid_name(name):
            raise BadName(name)
        if name in self._now.persons:
            raise DuplicateName(name)
        # If there would be too many persons, Family raises the very error that is due.
        self._change(Family(self._now.persons + (name,), self._now.groups))

    def drop_person(self, name):
        """Leave a person out; the others open as before."""
        self._change(self._now.without(name))

    def publish(self, name):
        """Let all know the shares of a person, who is left out then."""
        self._change(self._now.published(name))

    def put(self, name, other):
        """Let the persons of the other family take the place of a person."""
        self._change(put(self._now, name, other))

    def turn(self):
        """Let just the groups open whose rest does not open now."""
        self._change(self._now.turned())

    def undo(self):
        """Take back the last change that has not been taken back."""
        if self._earlier == []:
            raise NothingToUndo()
        self._now = self._earlier.pop()

    def tried(self, changes):
        """Return the verdict that the book would have after these changes."""
        # The changes are made in another book, so this one stays whatever comes of them.
        book = Book(self._now)
        for change in changes:
            make_change(book, change)
        return book.verdict()

    def history(self):
        """Return the list of the families up to the present one, without those that have been taken back."""
        return self._earlier + [self._now]

    def _change(self, family):
        self._earlier.append(self._now)
        self._now = family


def make_change(book, change):
    """Make a change in the book that a tuple, such as ("group", group), stands for."""
    word = change[0]
    if word == "group":
        book.put_group(change[1])
    elif word == "drop":
        book.drop_group(change[1])
    elif word == "person":
        book.put_person(change[1])
    elif word == "leave":
        book.drop_person(change[1])
    elif word == "publish":
        book.publish(change[1])
    elif word == "put":
        book.put(change[1], change[2])
    elif word == "turn":
        book.turn()
