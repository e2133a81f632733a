"""Points 9, 10, 23 and 24: factors_for, blind_row and solutions."""

import unittest
from copy import deepcopy
from itertools import product

from openshares.errors import BadCount, BadNumber
from openshares.rows import blind_row, combined, factors_for, rank, solutions
from tests.checking import ShareTest
from tests.reckoning import PRIMES, all_rows, goal, no_numbers, some_row_lists, sums, times, total

EXAMPLE = [(1, 1, 0), (0, 2, 1)]


class Point23FactorsFor(ShareTest):
    def test_the_example(self):
        self.assertIsNone(factors_for(3, EXAMPLE, (1, 0, 0)))
        self.assertIsNotNone(factors_for(3, EXAMPLE + [(0, 0, 2)], (1, 0, 0)))

    def test_many_lists_and_goals(self):
        for prime, width, rows in some_row_lists():
            reached = sums(prime, rows, width)
            for aim in all_rows(prime, width)[:100]:
                self.check(prime, width, rows, aim, aim in reached)

    def check(self, prime, width, rows, aim, is_reached):
        found = factors_for(prime, rows, aim)
        if not is_reached:
            self.assertIsNone(found)
            return
        self.assertIs(type(found), list)
        self.assertEqual(len(found), len(rows))
        for factor in found:
            self.assertIs(type(factor), int)
            self.assertIn(factor, range(prime))
        self.assertEqual(total(prime, found, rows, width), aim)

    def test_no_rows(self):
        for prime in PRIMES:
            for rows in ([], ()):
                for width in (1, 2, 40, 41):
                    self.assertEqual(factors_for(prime, rows, (0,) * width), [])
                    self.assertIsNone(factors_for(prime, rows, goal(width)))
                    self.assertIsNone(factors_for(prime, rows, (0,) * (width - 1) + (prime - 1,)))

    def test_edges(self):
        for prime in PRIMES:
            self.assertIsNone(factors_for(prime, [(0, 0)], (1, 0)))
            self.assertEqual(len(factors_for(prime, [(0, 0)] * 2, (0, 0))), 2)
            self.assertEqual(factors_for(prime, [(1, 1), (0, 1)], (1, 0)), [1, prime - 1])
            for rows in ([(1, 1), (1, 1), (0, 1)], [(0, 1), (0, prime - 1), (1, 1)], [(1, 0), (0, 1), (1, 1), (0, 0)]):
                self.check(prime, 2, rows, (1, 0), True)
                self.check(prime, 2, rows, (0, 1), True)
            self.assertIsNone(factors_for(prime, [(1, 1), (prime - 1, prime - 1)], (1, 0)))

    def test_great_widths(self):
        for width in (40, 41, 60):
            rows = [(0,) * at + (1, 1) + (0,) * (width - at - 2) for at in range(width - 1)]
            self.check(11, width, rows, goal(width), False)
            self.check(11, width, rows + [(0,) * (width - 1) + (1,)], goal(width), True)

    def test_lists_and_tuples_give_the_same(self):
        for prime, width, rows in some_row_lists()[::7]:
            one = factors_for(prime, rows, goal(width))
            self.assertEqual(factors_for(goal=goal(width), rows=tuple(rows), prime=prime), one)
            if one is not None:
                one.append(0)
                self.assertEqual(factors_for(prime, rows, goal(width)), one[:-1])

    def test_arguments_stay(self):
        rows = list(EXAMPLE)
        factors_for(3, rows, (1, 0, 1))
        factors_for(3, rows, (1, 0, 0))
        self.assertEqual(rows, EXAMPLE)


class Point23BlindRow(ShareTest):
    def test_the_example(self):
        self.assertEqual(times(3, blind_row(3, EXAMPLE, 3), EXAMPLE[0]), 0)
        self.assertIsNone(blind_row(3, EXAMPLE + [(0, 0, 2)], 3))

    def test_many_lists(self):
        for prime, width, rows in some_row_lists():
            exists = any(
                row[0] == 1 and all(times(prime, row, other) == 0 for other in rows) for row in all_rows(prime, width)
            )
            self.check(prime, width, rows, exists)

    def check(self, prime, width, rows, exists):
        kept = deepcopy(rows)
        found = blind_row(prime, rows, width)
        self.assertEqual(rows, kept)
        if not exists:
            self.assertIsNone(found)
            return
        self.assertIs(type(found), tuple)
        self.assertEqual((len(found), found[0]), (width, 1))
        for number in found:
            self.assertIs(type(number), int)
            self.assertIn(number, range(prime))
        self.assertEqual([times(prime, found, row) for row in rows], [0] * len(rows))

    def test_exactly_one_is_none(self):
        for prime, width, rows in some_row_lists():
            one, other = factors_for(prime, rows, goal(width)), blind_row(prime, rows, width)
            self.assertEqual((one is None) + (other is None), 1, (prime, rows))

    def test_edges(self):
        for prime in PRIMES:
            for width in (1, 2, 39, 40):
                self.check(prime, width, [], True)
                self.check(prime, width, [(0,) * width] * 3, True)
                self.check(prime, width, [goal(width)], False)
                self.check(prime, width, [(prime - 1,) + (0,) * (width - 1)], False)
            self.assertEqual(blind_row(prime, [], 1), (1,))
            self.assertEqual(blind_row(prime, [(1, 1), (1, 1)], 2), (1, prime - 1))

    def test_widths_out_of_bounds(self):
        for width in (0, -1, 41, 42, 2**80, -(2**80)):
            for rows in ([], (), [(1, 0)], [(1,) * 41]):
                self.assert_raises_with(BadCount, "count", width, blind_row, 3, rows, width)
        self.assert_raises_with(BadCount, "count", 1, blind_row, 3, [(1, 0)], 1)

    def test_widths_of_other_rows(self):
        for width in (1, 3, 39, 40):
            self.assert_raises_with(BadCount, "count", width, blind_row, 3, [(1, 0), (0, 1)], width)
        self.assert_raises_with(BadCount, "count", 40, blind_row, 3, [(1,) * 41], 40)

    def test_lists_and_tuples_give_the_same(self):
        for prime, width, rows in some_row_lists()[::7]:
            self.assertEqual(blind_row(width=width, rows=tuple(rows), prime=prime), blind_row(prime, rows, width))


class Point24(ShareTest):
    def test_the_example(self):
        self.assertEqual(solutions(3, EXAMPLE, [1, 2], 3), 3)

    def test_many_lists_and_values(self):
        for prime, width, rows in some_row_lists()[::2]:
            counts = {}
            for numbers in all_rows(prime, width):
                values = tuple(times(prime, numbers, row) for row in rows)
                counts[values] = counts.get(values, 0) + 1
            for values in list(product(range(prime), repeat=len(rows)))[:60]:
                found = solutions(prime, rows, list(values), width)
                self.assertIs(type(found), int)
                self.assertEqual(found, counts.get(values, 0))
                self.assertIn(found, (0, prime ** (width - rank(prime, rows))))

    def test_edges(self):
        for prime in PRIMES:
            for width in (1, 2, 39, 40):
                self.assertEqual(solutions(prime, [], [], width), prime**width)
                self.assertEqual(solutions(prime, ((0,) * width,), (0,), width), prime**width)
                self.assertEqual(solutions(prime, [(0,) * width], [1], width), 0)
                self.assertEqual(solutions(prime, [(1,) * width], [prime - 1], width), prime ** (width - 1))
            self.assertEqual(solutions(prime, [(1, 1), (1, 1)], [1, 1], 2), prime)
            self.assertEqual(solutions(prime, [(1, 1), (1, 1)], [1, 0], 2), 0)
            self.assertEqual(solutions(width=1, values=[1, 1], rows=[(1,), (1,)], prime=prime), 1)

    def test_more_rows_than_the_width(self):
        rows = [(1, 0), (0, 1), (1, 1), (1, 2)]
        self.assertEqual(solutions(5, rows, [2, 4, 1, 0], 2), 1)
        self.assertEqual(solutions(5, rows, [2, 4, 1, 1], 2), 0)

    def test_widths_out_of_bounds(self):
        for width in (0, -1, 41, 42, 2**80):
            for rows, values in (([], []), ([(1, 0)], [1]), ([(1,) * 41], [1]), ([(1, 0)], []), ([], [None])):
                self.assert_raises_with(BadCount, "count", width, solutions, 3, rows, values, width)
        for width in (1, 3, 40):
            self.assert_raises_with(BadCount, "count", width, solutions, 3, [(1, 0)], [None, None, None], width)

    def test_the_number_of_values(self):
        for rows, values in [
            ([], [0]), ([(1,)], []), ([(1,)], [0, 0]), ([(1,)], (None, None)), (((1,), (0,)), [7]), ([(0,)] * 3, [1, 1]),
        ]:
            self.assert_raises_with(BadCount, "count", len(values), solutions, 2, rows, values, 1)

    def test_any_value_that_is_no_number(self):
        for prime in PRIMES:
            for value in no_numbers(prime):
                for values in ([value, 1], (1, value), [value, None], (0, value)):
                    held = self.assert_raises_with(
                        BadNumber, "value", value, solutions, prime, [(1, 0), (0, 1)], values, 2
                    )
                    self.assertIs(held, value)
            self.assertEqual(solutions(prime, [(1, 0), (0, 1)], (0, prime - 1), 2), 1)

    def test_arguments_stay(self):
        rows, values = list(EXAMPLE), [1, 2]
        solutions(3, rows, values, 3)
        self.assertEqual((rows, values), (EXAMPLE, [1, 2]))


class Point9(unittest.TestCase):
    def test_what_factors_for_tells_adds_up_by_combined(self):
        for prime, width, rows in some_row_lists():
            found = factors_for(prime, rows, goal(width))
            if found:
                self.assertEqual(combined(prime, found, rows), goal(width))


if __name__ == "__main__":
    unittest.main()
