"""Dealing the shares of a secret, and opening it from shares."""

from openshares.errors import BadCount, BadGroup, BadShares, BlindGroup, UnknownName
from openshares.families import all_groups
from openshares.rows import check_number, check_numbers, goal_row, has_numbers, product, solutions
from openshares.schemes import goal_factors, rows_of_group


def deal(scheme, secret, numbers):
    """Return the shares of each person, as a dict of tuples, for a secret and the free numbers."""
    check_number(scheme.prime, secret)
    if len(numbers) != scheme.width - 1:
        raise BadCount(len(numbers))
    check_numbers(scheme.prime, numbers)
    dealt = (secret, *numbers)
    return {
        name: tuple([product(scheme.prime, dealt, row) for row in scheme.rows(name)]) for name in scheme.persons
    }


def ways(scheme, shares, secret):
    """Return the number of rows with this secret that a dealer can take for these shares."""
    group = checked_group(scheme, shares)
    check_number(scheme.prime, secret)
    rows = rows_of_group(scheme, group) + [goal_row(scheme.width)]
    return solutions(scheme.prime, rows, numbers_of(shares, group) + [secret], scheme.width)


def fitting(scheme, shares):
    """Return the ascending list of the secrets that the shares fit."""
    return fitting_secrets(scheme, shares, checked_group(scheme, shares))


def open_shares(scheme, shares):
    """Return the secret of shares."""
    group = checked_group(scheme, shares)
    if not scheme.opens(group):
        raise BlindGroup(group)
    secrets = fitting_secrets(scheme, shares, group)
    if secrets == []:
        raise BadShares(shares)
    return secrets[0]


def agreeing(scheme, shares):
    """Return the list, in order, of the groups whose shares fit some secret."""
    groups = all_groups(checked_group(scheme, shares))
    return [group for group in groups if fitting_secrets(scheme, shares, group) != []]


def added(scheme, one, other):
    """Return the shares of one group that are sums of the shares in one and in other."""
    group = checked_group(scheme, one)
    other_group = checked_group(scheme, other)
    if other_group != group:
        raise BadGroup(other_group)
    return {
        name: tuple([(first + second) % scheme.prime for first, second in zip(one[name], other[name])])
        for name in group
    }


def checked_group(scheme, shares):
    """Return the group of the shares, or raise what is wrong with them."""
    group = tuple(sorted(shares))
    for name in group:
        if name not in scheme.persons:
            raise UnknownName(name)
    for name in group:
        if not has_numbers(scheme.prime, shares[name], scheme.size(name)):
            raise BadShares(shares[name])
    return group


def numbers_of(shares, group):
    """Return the list of the numbers in the shares of all persons of the group."""
    return [number for name in group for number in shares[name]]


def fitting_secrets(scheme, shares, group):
    """Return the ascending list of the secrets that the shares of this group fit."""
    rows = rows_of_group(scheme, group)
    numbers = numbers_of(shares, group)
    if solutions(scheme.prime, rows, numbers, scheme.width) == 0:
        return []
    factors = goal_factors(scheme, group)
    if factors is None:
        # To a blind group every secret is as possible as any other.
        return list(range(scheme.prime))
    return [sum([factor * number for factor, number in zip(factors, numbers)]) % scheme.prime]
