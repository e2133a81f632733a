"""A second, independent reckoning of rows and schemes, by trying all factors and all rows of numbers."""

from collections import Counter
from functools import cache
from itertools import combinations, product
from random import Random

from openshares.schemes import Scheme
from tests.samples import DEEP, NAMES, subsets

PRIMES = (2, 3, 5, 7, 11)

NO_PRIMES = [
    None, True, False, 0, 1, -1, -2, -3, 4, 6, 8, 9, 10, 12, 13, 17, 22, 2**80, "", "2", "a", [], [2], (), (2,), {},
    {2: 2}, [[2]], DEEP,
]

# No numbers modulo any prime.
NO_NUMBERS = [
    None, True, False, -1, -2, 11, 12, 2**80, -(2**80), "", "0", "1", [], [0], [1], (), (0,), (1,), {}, {1: 1}, {"1": [1]},
    ((1,),), DEEP,
]

# No rows modulo any prime, whatever the width.
NO_ROWS = [
    None, True, False, 0, 1, 2, "", "1", "10", "1 0", [], (), [0], [1], [1, 0], [0, 1], [1, 1, 1], {}, {1: 0}, {0: 1},
    {(1, 0): (1, 0)}, [(1, 0)], ((1, 0),), (((1, 0),),), ((1,), (0,)), DEEP, tuple(DEEP),
] + [(value,) for value in NO_NUMBERS] + [(0, value) for value in NO_NUMBERS] + [(value, 1) for value in NO_NUMBERS]


def no_numbers(prime):
    return NO_NUMBERS + [prime, prime + 1, -prime, 2 * prime]


def no_rows(prime, width):
    """Values that are no rows modulo the prime of this width; rows of other widths are among them."""
    one, zeros = (1,) * width, (0,) * (width - 1)
    return NO_ROWS + [
        one + (0,), one[1:], one * 2, list(one), zeros + (prime,), (prime,) + zeros, zeros + (-1,), (-1,) + zeros,
        zeros + (True,), (False,) + zeros, zeros + (None,), (one,), [one],
    ]


def all_rows(prime, width):
    """All rows of numbers of this width."""
    return list(product(range(prime), repeat=width))


def times(prime, one, other):
    assert len(one) == len(other)
    return sum(first * second for first, second in zip(one, other)) % prime


def total(prime, factors, rows, width):
    """The sum of the rows, each multiplied by its factor; rows of zeros if there are none."""
    assert len(factors) == len(rows)
    return tuple(sum(factor * row[at] for factor, row in zip(factors, rows)) % prime for at in range(width))


def sums(prime, rows, width):
    """The set of all sums of multiples of the rows."""
    return {total(prime, factors, rows, width) for factors in product(range(prime), repeat=len(rows))}


def most_independent(prime, rows, width):
    """The rank as point 22 says it: by all choices of the rows."""
    best = 0
    for many in range(1, len(rows) + 1):
        for chosen in combinations(rows, many):
            if all(chosen[at] not in sums(prime, chosen[:at] + chosen[at + 1:], width) for at in range(many)):
                best = many
    return best


def goal(width):
    return (1,) + (0,) * (width - 1)


def some_row_lists():
    """Tuples of a prime, a width and a list of a few rows: all small ones, and a sample for each prime."""
    found = [(prime, width, []) for prime in PRIMES for width in (1, 2, 3)]
    found += [(prime, 1, [row]) for prime in PRIMES for row in all_rows(prime, 1)]
    for prime, width, many in [(2, 1, 3), (2, 2, 3), (3, 1, 2), (3, 2, 2), (2, 3, 2)]:
        found += [(prime, width, list(rows)) for rows in product(all_rows(prime, width), repeat=many)]
    random = Random(21)
    for prime, width, most in [(2, 4, 4), (3, 3, 4), (3, 4, 3), (5, 2, 3), (5, 3, 3), (7, 2, 3), (7, 3, 2), (11, 2, 2)]:
        for _ in range(25):
            many = random.randint(1, most)
            rows = [tuple(random.randrange(prime) for _ in range(width)) for _ in range(many)]
            if random.random() < 0.4:
                # The last row is a sum of multiples of the others, perhaps of none.
                factors = [random.randrange(prime) for _ in rows[:-1]]
                rows[-1] = total(prime, factors, rows[:-1], width)
            found.append((prime, width, rows))
    return found


def group_rows(scheme, group):
    return [row for name in group for row in scheme.rows(name)]


def group_opens(scheme, group):
    """Point 8: some factors make the rows of the group add up to 1 0 0 .. 0."""
    return _adds_up(scheme.prime, scheme.width, tuple(group_rows(scheme, group)))


@cache
def _adds_up(prime, width, rows):
    return goal(width) in sums(prime, rows, width)


def group_blind(scheme, group):
    """Point 8: some row that begins with 1 has the product 0 with each row of the group."""
    rows = group_rows(scheme, group)
    return any(
        row[0] == 1 and all(times(scheme.prime, row, other) == 0 for other in rows)
        for row in all_rows(scheme.prime, scheme.width)
    )


def dealt(scheme, numbers):
    """The shares of all persons if the dealer takes this row of numbers."""
    return {
        name: tuple(times(scheme.prime, numbers, row) for row in scheme.rows(name)) for name in scheme.persons
    }


def all_ways(scheme, shares):
    """For each secret, the number of the dealer's rows that give these shares."""
    group = sorted(shares)
    counts = _all_counts(scheme.prime, scheme.width, tuple(group_rows(scheme, group)))
    numbers = tuple(number for name in group for number in shares[name])
    return [counts.get((secret, numbers), 0) for secret in range(scheme.prime)]


@cache
def _all_counts(prime, width, rows):
    """How many of all rows that a dealer can take give each secret and products with these rows."""
    return Counter(
        (numbers[0], tuple(times(prime, numbers, row) for row in rows)) for numbers in all_rows(prime, width)
    )


def of_group(shares, group):
    return {name: shares[name] for name in group}


def all_shares(scheme, group):
    """All shares of a group, whether they fit a secret or not."""
    choices = [all_rows(scheme.prime, scheme.size(name)) for name in group]
    return [dict(zip(group, chosen)) for chosen in product(*choices)]


def edge_schemes():
    """Schemes in which nobody opens, everybody alone, and such edges."""
    return [
        Scheme(2, 1, {"a": []}),
        Scheme(2, 1, {"a": [(1,)]}),
        Scheme(11, 1, {"a": [(0,)], "b": [(7,)]}),
        Scheme(3, 2, {"a": [], "b": [], "c": []}),
        Scheme(3, 2, {"a": [(0, 0)], "b": [(0, 1), (0, 2)]}),
        Scheme(5, 2, {"a": [(1, 0)], "b": [(3, 0)], "c": [(0, 0), (2, 0)]}),
        Scheme(3, 2, {"a": [(1, 1)], "b": [(1, 2)], "c": [(0, 1)]}),
        Scheme(2, 2, {name: [(1, 1)] for name in NAMES}),
        Scheme(2, 3, {"a": [(0, 1, 0)], "b": [(1, 1, 0), (0, 0, 1)], "c": [(1, 0, 1)], "d": []}),
        Scheme(2, 3, {"a": [(1, 1, 0)], "b": [(0, 1, 1)], "c": [(0, 0, 1)], "d": [], "e": [(0, 0, 0)]}),
        Scheme(7, 2, {"a": [(1, 1)], "b": [(1, 2)], "c": [(1, 3)], "d": [(1, 4)], "e": [(1, 5)]}),
        Scheme(2, 1, {"a": [(1,)] * 4, "b": [(0,)] * 4}),
    ]


def some_schemes():
    """The edges, and a sample over each prime that is small enough for trying everything."""
    found = edge_schemes()
    random = Random(27)
    for prime, width, many, most in [(2, 2, 3, 2), (2, 3, 4, 2), (2, 4, 5, 1), (3, 2, 3, 2), (3, 3, 4, 1), (5, 2, 3, 1),
                                     (7, 2, 3, 1), (11, 2, 2, 1)]:
        for _ in range(8):
            rows = {}
            for name in NAMES[:many]:
                size = random.randint(0, most) if most > 1 else int(random.random() < 0.9)
                rows[name] = [tuple(random.randrange(prime) for _ in range(width)) for _ in range(size)]
            found.append(Scheme(prime, width, rows))
    return found


def random_scheme(seed, prime, width, sizes):
    """A scheme as great as asked, whose rows look arbitrary but are always the same."""
    random = Random(seed)
    return Scheme(prime, width, {
        name: [tuple(random.randrange(prime) for _ in range(width)) for _ in range(size)]
        for name, size in zip(NAMES, sizes)
    })


def schemes_and_groups():
    return [(scheme, group) for scheme in some_schemes() for group in subsets(scheme.persons)]
