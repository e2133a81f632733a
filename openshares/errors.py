"""The errors of the program; each keeps its argument as an attribute."""


class ShareError(ValueError):
    """The error that all others of the program are kinds of."""


class BadName(ShareError):
    """A string that is not a name."""

    def __init__(self, name):
        self.name = name


class DuplicateName(ShareError):
    """A name that is there already."""

    def __init__(self, name):
        self.name = name


class UnknownName(ShareError):
    """A name that no person has."""

    def __init__(self, name):
        self.name = name


class BadCount(ShareError):
    """A number of something that is too small, too great or does not match."""

    def __init__(self, count):
        self.count = count


class BadGroup(ShareError):
    """A value that is not a group, or not one that is allowed here."""

    def __init__(self, value):
        self.value = value


class BadText(ShareError):
    """A string that is not the text of a family."""

    def __init__(self, text):
        self.text = text


class BadPrime(ShareError):
    """A value that is not a prime that is allowed here."""

    def __init__(self, number):
        self.number = number


class BadNumber(ShareError):
    """A value that is not a number modulo the prime."""

    def __init__(self, value):
        self.value = value


class BadRow(ShareError):
    """A value that is not a row of the width that is asked."""

    def __init__(self, value):
        self.value = value


class NoGroup(ShareError):
    """No group is there, or none would open."""


class UnlikePersons(ShareError):
    """Persons that are not those of the other family or scheme."""

    def __init__(self, names):
        self.names = names


class UnlikePrimes(ShareError):
    """A prime that is not that of the other scheme."""

    def __init__(self, number):
        self.number = number


class BlindGroup(ShareError):
    """A group that cannot open the secret."""

    def __init__(self, value):
        self.value = value


class BadShares(ShareError):
    """A value that is not the shares of a person or of a group."""

    def __init__(self, value):
        self.value = value


class NotSingle(ShareError):
    """A paper that shows that no single scheme has the family."""

    def __init__(self, value):
        self.value = value


class IsSingle(ShareError):
    """A single scheme has the family, so there is no paper."""


class NothingToUndo(ShareError):
    """No change is left that could be taken back."""
