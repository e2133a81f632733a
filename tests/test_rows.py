"""Points 6, 10, 21 and 22: product, combined and rank, and the errors of a prime and of rows."""

from copy import deepcopy
from itertools import permutations

from openshares.errors import BadCount, BadNumber, BadPrime, BadRow
from openshares.rows import blind_row, combined, factors_for, product, rank, solutions
from tests.checking import ShareTest
from tests.reckoning import NO_PRIMES, PRIMES, all_rows, most_independent, no_numbers, no_rows, some_row_lists
from tests.reckoning import times, total

# Each function with arguments that are right for every prime, the arguments of rows being told by their names.
CALLS = [
    (product, {"one": (1, 0), "other": (0, 1)}, ["one", "other"], []),
    (combined, {"factors": [1], "rows": [(1, 0)]}, [], ["rows"]),
    (rank, {"rows": [(1, 0)]}, [], ["rows"]),
    (factors_for, {"rows": [(1, 0)], "goal": (1, 0)}, ["goal"], ["rows"]),
    (blind_row, {"rows": [(1, 0)], "width": 2}, [], ["rows"]),
    (solutions, {"rows": [(1, 0)], "values": [1], "width": 2}, [], ["rows"]),
]


class Point21Errors(ShareTest):
    def test_the_example(self):
        self.assert_raises_with(BadPrime, "number", 4, rank, 4, [])

    def test_any_value_that_is_no_prime(self):
        for function, more, _, _ in CALLS:
            for value in NO_PRIMES:
                held = self.assert_raises_with(BadPrime, "number", value, function, value, **more)
                self.assertIs(held, value)

    def test_all_primes(self):
        for function, more, _, _ in CALLS:
            for prime in PRIMES:
                function(prime, **more)

    def test_the_prime_comes_first(self):
        for number in (4, True, None, [2]):
            self.assert_raises_with(BadPrime, "number", number, product, number, None, [1])
            self.assert_raises_with(BadPrime, "number", number, combined, number, [None], [])
            self.assert_raises_with(BadPrime, "number", number, rank, number, [None])
            self.assert_raises_with(BadPrime, "number", number, factors_for, number, [()], None)
            self.assert_raises_with(BadPrime, "number", number, blind_row, number, [None], 0)
            self.assert_raises_with(BadPrime, "number", number, solutions, number, [None], [None, None], 0)

    def test_any_value_that_is_no_row(self):
        for function, right, single, lists in CALLS:
            for prime in PRIMES:
                for value in no_rows(prime, 2):
                    for word in single:
                        self.assert_bad_row(function, prime, {**right, word: value}, value, right, word)
                    for word in lists:
                        # One row alone may have any width; so this one stands behind another one.
                        for rows in ([(1, 0), value], ((0, 1), value, (1, 0)), [(1, 1), (0, 0), value, None]):
                            more = {**right, word: rows}
                            if "factors" in right:
                                more["factors"] = [1] * len(rows)
                            held = self.assert_raises_with(BadRow, "value", value, function, prime, **more)
                            self.assertIs(held, value)

    def assert_bad_row(self, function, prime, more, value, right, word):
        # Of product's first argument a row of another width is right, but then the second one is wrong.
        expected = value
        if word == "one" and isinstance(value, tuple) and _is_row(prime, value):
            expected = right["other"]
        held = self.assert_raises_with(BadRow, "value", expected, function, prime, **more)
        self.assertIs(held, expected)

    def test_the_first_row_of_a_list(self):
        for function, right, _, lists in CALLS:
            for prime in PRIMES:
                for value in [value for value in no_rows(prime, 1) if not _is_row(prime, value)]:
                    for word in lists:
                        self.assert_raises_with(BadRow, "value", value, function, prime, **{**right, word: [value]})
                        self.assert_raises_with(
                            BadRow, "value", value, function, prime, **{**right, word: (value, None, (1, 0))}
                        )

    def test_numbers_from_the_prime_on(self):
        for prime in PRIMES:
            self.assertEqual(rank(prime, [(prime - 1, 0)]), 1)
            for number in (prime, prime + 1, -1, -prime):
                self.assert_raises_with(BadRow, "value", (number, 0), rank, prime, [(number, 0)])
                self.assert_raises_with(BadRow, "value", (0, number), product, prime, (0, number), (1, 1))
                self.assert_raises_with(BadRow, "value", (0, number), product, prime, (1, 1), (0, number))

    def test_the_first_bad_row_counts(self):
        self.assert_raises_with(BadRow, "value", (1,), rank, 2, [(1, 0), (0, 1), (1,), None])
        self.assert_raises_with(BadRow, "value", None, rank, 2, [(1, 0), None, (1,)])
        self.assert_raises_with(BadRow, "value", (), rank, 2, [(), (1,)])
        self.assert_raises_with(BadRow, "value", (1, 0), rank, 2, [(1,), (1, 0), (1, 0)])
        self.assert_raises_with(BadRow, "value", [1], product, 2, [1], (2,))
        self.assert_raises_with(BadRow, "value", (2,), product, 2, (1,), (2,))
        self.assert_raises_with(BadRow, "value", (1, 1), product, 2, (1,), (1, 1))

    def test_the_width_of_earlier_arguments(self):
        self.assert_raises_with(BadRow, "value", (1,), factors_for, 3, [(1, 0), (0, 1)], (1,))
        self.assert_raises_with(BadRow, "value", (1, 0, 0), factors_for, 3, ((1, 0),), (1, 0, 0))
        self.assert_raises_with(BadRow, "value", None, factors_for, 3, [(1, 0), None], None)
        # Without any rows the goal may have any width.
        self.assertIsNone(factors_for(3, [], (1, 0, 0)))
        for value in no_rows(3, 2):
            if not _is_row(3, value):
                self.assert_raises_with(BadRow, "value", value, factors_for, 3, [], value)

    def test_rows_come_before_counts_and_numbers(self):
        self.assert_raises_with(BadRow, "value", None, combined, 3, [], [None])
        self.assert_raises_with(BadRow, "value", (3,), combined, 3, [None], [(3,)])
        self.assert_raises_with(BadRow, "value", [1], blind_row, 3, [[1]], 0)
        self.assert_raises_with(BadRow, "value", [1], solutions, 3, [[1]], [None, None], 0)


class Point21Product(ShareTest):
    def test_the_example(self):
        self.assertEqual(product(3, (1, 1, 0), (0, 2, 1)), 2)

    def test_all_small_rows(self):
        for prime, width in [(2, 3), (3, 2), (5, 1), (7, 1), (11, 1), (5, 2)]:
            for one in all_rows(prime, width):
                for other in all_rows(prime, width):
                    found = product(prime, one, other)
                    self.assertIs(type(found), int)
                    self.assertEqual(found, times(prime, one, other))

    def test_great_widths(self):
        for width in (1, 39, 40, 41, 100):
            self.assertEqual(product(11, (10,) * width, (10,) * width), width % 11)
            self.assertEqual(product(prime=7, one=(6,) * width, other=(1,) * width), -width % 7)


class Point21Combined(ShareTest):
    def test_the_example(self):
        self.assertEqual(combined(3, [1, 1], [(1, 1, 0), (0, 2, 1)]), (1, 0, 1))

    def test_many_lists(self):
        for prime, width, rows in some_row_lists():
            if rows:
                for first in range(prime):
                    factors = [(first + at * at) % prime for at in range(len(rows))]
                    found = combined(prime, factors, rows)
                    self.assertIs(type(found), tuple)
                    self.assertEqual(found, total(prime, factors, rows, width))
                    self.assertEqual(combined(rows=tuple(rows), factors=tuple(factors), prime=prime), found)

    def test_one_row_and_great_widths(self):
        self.assertEqual(combined(5, [3], [(2, 4)]), (1, 2))
        self.assertEqual(combined(5, [0], [(2, 4)]), (0, 0))
        self.assertEqual(combined(11, [10] * 50, [(10,) * 41] * 50), (50 % 11,) * 41)

    def test_the_number_of_factors(self):
        for factors, rows in [
            ([], [(1,)]), ([1, 1], [(1,)]), ([1], [(1,), (0,)]), ([1, 1, 1], ((1,), (0,))), ((), ((1,),)),
            ([], []), ((), ()), ([1], []), ([1, 1], ()), ([None, 7], [(1,)]), ([None], []),
        ]:
            self.assert_raises_with(BadCount, "count", len(factors), combined, 2, factors, rows)

    def test_any_factor_that_is_no_number(self):
        for prime in PRIMES:
            for value in no_numbers(prime):
                for factors in ([value, 1], (1, value), [value, None], (0, value)):
                    held = self.assert_raises_with(
                        BadNumber, "value", value, combined, prime, factors, [(1, 0), (0, 1)]
                    )
                    self.assertIs(held, value)
            self.assertEqual(combined(prime, [0, prime - 1], [(1, 0), (0, 1)]), (0, prime - 1))

    def test_arguments_stay(self):
        factors, rows = [1, 2], [(1, 0), (0, 1)]
        combined(3, factors, rows)
        self.assertEqual((factors, rows), ([1, 2], [(1, 0), (0, 1)]))


class Point22(ShareTest):
    def test_the_example(self):
        rows = [(1, 1, 0), (0, 2, 1)]
        self.assertEqual([rank(3, rows), rank(3, rows + [(1, 0, 1)])], [2, 2])

    def test_edges(self):
        for prime in PRIMES:
            self.assertEqual(rank(prime, []), 0)
            self.assertEqual(rank(prime, ()), 0)
            self.assertEqual(rank(prime, [(0,)]), 0)
            self.assertEqual(rank(prime, [(0, 0, 0)] * 3), 0)
            self.assertEqual(rank(prime, [(0, 1), (0, 1)]), 1)
            self.assertEqual(rank(prime, [(0, 1), (0, prime - 1), (0, 0)]), 1)
            self.assertEqual(rank(prime, [(1, 0), (0, 1), (1, 1)]), 2)
            self.assertEqual(rank(prime, [(1, 1), (1, prime - 1)]), 1 if prime == 2 else 2)

    def test_many_lists(self):
        for prime, width, rows in some_row_lists():
            kept = deepcopy(rows)
            self.assertEqual(rank(prime, rows), most_independent(prime, rows, width), (prime, rows))
            self.assertEqual(rows, kept)

    def test_the_order_has_no_meaning(self):
        rows = [(1, 2, 0, 1), (2, 1, 0, 2), (0, 0, 1, 1), (1, 2, 1, 2)]
        for chosen in permutations(rows):
            self.assertEqual(rank(rows=chosen, prime=3), 2)

    def test_great_widths(self):
        for width in (40, 41):
            units = [(0,) * at + (1,) + (0,) * (width - at - 1) for at in range(width)]
            self.assertEqual(rank(11, units + [(1,) * width]), width)
            self.assertEqual(rank(2, [units[0]] * 100), 1)


def _is_row(prime, value):
    """Whether the value is a row of any width."""
    return isinstance(value, tuple) and value != () and all(type(x) is int and 0 <= x < prime for x in value)


if __name__ == "__main__":
    import unittest

    unittest.main()
