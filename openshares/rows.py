"""Rows of numbers modulo a prime, and the sums of their multiples."""

from openshares.errors import BadCount, BadNumber, BadPrime, BadRow

PRIMES = (2, 3, 5, 7, 11)
MOST_WIDTH = 40


def check_prime(prime):
    """Raise BadPrime if the value, which may be any value, is not one of the primes."""
    # No prime equals True or False, so nothing but an integer can be among them.
    if prime not in PRIMES:
        raise BadPrime(prime)


def is_whole(value):
    """Tell whether the value is an integer; True and False are none here."""
    return isinstance(value, int) and not isinstance(value, bool)


def is_number(prime, value):
    """Tell whether the value, which may be any value, is a number modulo the prime."""
    return is_whole(value) and 0 <= value < prime


def has_numbers(prime, value, many):
    """Tell whether the value, which may be any value, is a tuple of so many numbers modulo the prime."""
    if not isinstance(value, tuple) or len(value) != many:
        return False
    return all([is_number(prime, item) for item in value])


def check_number(prime, value):
    """Raise BadNumber if the value, which may be any value, is not a number modulo the prime."""
    if not is_number(prime, value):
        raise BadNumber(value)


def check_numbers(prime, values):
    """Raise BadNumber with the first value that is not a number modulo the prime."""
    for value in values:
        check_number(prime, value)


def check_rows(prime, values):
    """Raise BadRow with the first value that is not a row, or not one of the width of those before it."""
    width = None
    for value in values:
        if width is None and isinstance(value, tuple) and value != ():
            width = len(value)
        if width is None or not has_numbers(prime, value, width):
            raise BadRow(value)


def check_width(width, rows):
    """Raise BadCount with the width if it is out of bounds or not that of the rows, which have one width."""
    if not 1 <= width <= MOST_WIDTH or any([len(row) != width for row in rows]):
        raise BadCount(width)


def goal_row(width):
    """Return the row 1 0 0 .. 0, whose product with a dealer's row is the secret."""
    return (1,) + (0,) * (width - 1)


def product(prime, one, other):
    """Return the product of two rows."""
    check_prime(prime)
    check_rows(prime, [one, other])
    return sum([number * factor for number, factor in zip(one, other)]) % prime


def combined(prime, factors, rows):
    """Return the sum of the rows, each multiplied by its factor."""
    check_prime(prime)
    check_rows(prime, rows)
    if len(rows) == 0 or len(factors) != len(rows):
        raise BadCount(len(factors))
    check_numbers(prime, factors)
    columns = [[row[at] for row in rows] for at in range(len(rows[0]))]
    return tuple([sum([factor * number for factor, number in zip(factors, column)]) % prime for column in columns])


def rank(prime, rows):
    """Return the greatest number of the rows none of which is a sum of multiples of the others."""
    check_prime(prime)
    check_rows(prime, rows)
    return len(reduced(prime, rows))


def factors_for(prime, rows, goal):
    """Return a list of factors with which the rows add up to the goal, or None."""
    check_prime(prime)
    check_rows(prime, [*rows, goal])
    # The factors are what is sought, so each column is an equation for them.
    equations = [[row[at] for row in rows] + [goal[at]] for at in range(len(goal))]
    return solved(prime, equations, len(rows))


def blind_row(prime, rows, width):
    """Return a row whose first number is 1 and whose product with each of the rows is 0, or None."""
    check_prime(prime)
    check_rows(prime, rows)
    check_width(width, rows)
    equations = [[*row, 0] for row in rows] + [[*goal_row(width), 1]]
    found = solved(prime, equations, width)
    return None if found is None else tuple(found)


def solutions(prime, rows, values, width):
    """Return the number of the rows of numbers whose products with the rows are the values."""
    check_prime(prime)
    check_rows(prime, rows)
    check_width(width, rows)
    if len(values) != len(rows):
        raise BadCount(len(values))
    check_numbers(prime, values)
    found = reduced(prime, [[*row, value] for row, value in zip(rows, values)])
    if is_unsolvable(found, width):
        return 0
    return power(prime, width - len(found))


def solved(prime, equations, many):
    """Return a list of so many numbers that solves the equations, or None.

    An equation is a list of as many factors, and behind them what the numbers, each multiplied by
    its factor, add up to.
    """
    found = reduced(prime, equations)
    if is_unsolvable(found, many):
        return None
    # All numbers that no equation leads with are chosen as 0, so the others are what stands behind.
    numbers = [0] * many
    for lead, equation in found:
        numbers[lead] = equation[many]
    return numbers


def is_unsolvable(found, many):
    """Tell whether one of the reduced equations for so many numbers has no factor but 0."""
    return any([lead == many for lead, equation in found])


def reduced(prime, rows):
    """Return a list of (lead, row), whose rows have the same sums of multiples as the given ones.

    The lead is the place of the first number of the row that is not 0. This number is 1, and all
    other rows of the list have 0 at this place.
    """
    found = []
    for row in rows:
        left = row
        for lead, known in found:
            left = less(prime, left, left[lead], known)
        places = [at for at, number in enumerate(left) if number != 0]
        if places:
            first = places[0]
            factor = inverse(prime, left[first])
            fresh = [number * factor % prime for number in left]
            found = [(lead, less(prime, known, known[first], fresh)) for lead, known in found]
            found.append((first, fresh))
    return found


def less(prime, row, factor, other):
    """Return the row less the other one multiplied by the factor."""
    if factor == 0:
        return row
    return [(number - factor * taken) % prime for number, taken in zip(row, other)]


def inverse(prime, number):
    """Return the number whose product with this one, which is not 0, is 1."""
    return [other for other in range(prime) if number * other % prime == 1][0]


def power(base, exponent):
    """Return the base multiplied with itself so many times."""
    result = 1
    for _ in range(exponent):
        result = result * base
    return result
