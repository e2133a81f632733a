"""Points 10 and 31 to 33: deal, ways and fitting."""

import unittest
from copy import deepcopy

from openshares.dealing import added, agreeing, deal, fitting, open_shares, ways
from openshares.errors import BadCount, BadNumber, BadShares, UnknownName
from openshares.schemes import Scheme
from tests.checking import ShareTest
from tests.reckoning import PRIMES, all_rows, all_shares, all_ways, dealt, group_opens, no_numbers, of_group
from tests.reckoning import random_scheme, schemes_and_groups, some_schemes
from tests.samples import DEEP, NAMES, subsets

EXAMPLE = Scheme(3, 2, {"a": [(1, 1)], "b": [(1, 2)], "c": [(0, 1)]})
SIZES = Scheme(3, 2, {"a": [(1, 1), (0, 1)], "b": [], "c": [(1, 0)]})

# The functions that check shares in the same way, with what else they take.
READERS = [
    lambda scheme, shares: ways(scheme, shares, 0),
    lambda scheme, shares: ways(scheme, shares, None),
    fitting,
    open_shares,
    agreeing,
    lambda scheme, shares: added(scheme, shares, {}),
    lambda scheme, shares: added(scheme, shares, {"z": None}),
    lambda scheme, shares: added(scheme, {}, shares),
]

# Never the shares of a person who has one row or two.
NO_SHARES = [
    None, True, False, 0, 1, "", "0", "01", [], [0], [1], [0, 1], {}, {0: 1}, (), (None,), (True,), (False,), ("0",),
    ([0],), ((0,),), ((0, 1),), ({},), (0, None), (None, 0), (0, True), (True, 0), (0, "1"), (0, [1]), (3,), (0, 3),
    (-1,), (-1, 0), (0, 2**80), (0, 0, 0), (0,) * 16, DEEP, tuple(DEEP), [(0,)],
]


class Point31(ShareTest):
    def test_the_example(self):
        self.assertEqual(deal(EXAMPLE, 2, [1]), {"a": (0,), "b": (1,), "c": (1,)})

    def test_every_row_of_every_scheme(self):
        for scheme in some_schemes():
            for numbers in all_rows(scheme.prime, scheme.width):
                found = deal(scheme, numbers[0], list(numbers[1:]))
                self.assertIs(type(found), dict)
                self.assertEqual(found, dealt(scheme, numbers))
                for shares in found.values():
                    self.assertIs(type(shares), tuple)
                self.assertEqual(deal(numbers=numbers[1:], secret=numbers[0], scheme=scheme), found)

    def test_the_order_of_the_free_numbers_and_of_the_rows(self):
        scheme = Scheme(11, 4, {"b": [(0, 0, 0, 1), (1, 0, 0, 0)], "a": [(0, 0, 1, 0), (0, 1, 0, 0)], "c": []})
        self.assertEqual(deal(scheme, 7, [1, 2, 3]), {"a": (2, 1), "b": (3, 7), "c": ()})

    def test_any_secret_that_is_no_number(self):
        for prime in PRIMES:
            scheme = Scheme(prime, 2, {"a": [(1, 1)]})
            for value in no_numbers(prime):
                for numbers in ([0], [], [0, 0], [None], (value,)):
                    held = self.assert_raises_with(BadNumber, "value", value, deal, scheme, value, numbers)
                    self.assertIs(held, value)
            self.assertEqual(deal(scheme, prime - 1, (0,)), {"a": (prime - 1,)})

    def test_the_number_of_free_numbers(self):
        for width in (1, 2, 3, 39, 40):
            scheme = Scheme(2, width, {"a": [(1,) * width]})
            self.assertEqual(deal(scheme, 1, [1] * (width - 1)), {"a": (width % 2,)})
            for many in (width - 2, width, width + 1, 2 * width):
                if many >= 0:
                    for numbers in ([1] * many, (1,) * many, [None] * many, [2] * many):
                        self.assert_raises_with(BadCount, "count", many, deal, scheme, 1, numbers)

    def test_no_free_numbers_at_width_1(self):
        scheme = Scheme(5, 1, {"a": [(2,), (0,)], "b": []})
        for numbers in ([], ()):
            self.assertEqual(deal(scheme, 3, numbers), {"a": (1, 0), "b": ()})
        self.assert_raises_with(BadCount, "count", 1, deal, scheme, 3, [0])

    def test_any_free_number_that_is_none(self):
        for prime in PRIMES:
            scheme = Scheme(prime, 3, {"a": [(1, 1, 1)]})
            for value in no_numbers(prime):
                for numbers in ([value, 1], (1, value), [value, None], [0, value]):
                    held = self.assert_raises_with(BadNumber, "value", value, deal, scheme, 0, numbers)
                    self.assertIs(held, value)
            self.assertEqual(deal(scheme, 0, [0, prime - 1]), {"a": (prime - 1,)})

    def test_arguments_stay_and_results_are_new(self):
        numbers = [1]
        found = deal(EXAMPLE, 2, numbers)
        found["a"] = None
        self.assertEqual(numbers, [1])
        self.assertEqual(deal(EXAMPLE, 2, numbers), {"a": (0,), "b": (1,), "c": (1,)})


class Point32Errors(ShareTest):
    def test_unknown_names(self):
        for call in READERS:
            for name in ("d", "", "A", "aa", " ", "a\n"):
                for shares in ({name: (0,)}, {"c": (0,), name: None, "a": None}, {name: (), "z": (0,)}):
                    self.assert_raises_with(UnknownName, "name", name, call, SIZES, shares)

    def test_the_first_unknown_name_in_ascending_order(self):
        for call in READERS:
            self.assert_raises_with(UnknownName, "name", "aa", call, SIZES, {"d": (), "aa": (), "z": (), "a": (0, 0)})
            self.assert_raises_with(UnknownName, "name", "A", call, SIZES, {"z": (), "a": None, "A": ()})

    def test_any_value_that_is_no_shares(self):
        for call in READERS:
            for value in NO_SHARES:
                for shares in ({"a": value}, {"c": None, "a": value}, {"b": (), "a": value, "c": (0,)}):
                    held = self.assert_raises_with(BadShares, "value", value, call, SIZES, shares)
                    self.assertIs(held, value)
                held = self.assert_raises_with(BadShares, "value", value, call, SIZES, {"c": value, "a": (0, 1)})
                self.assertIs(held, value)
                if value != ():
                    self.assert_raises_with(BadShares, "value", value, call, SIZES, {"c": None, "b": value})

    def test_as_many_numbers_as_rows(self):
        for call in READERS:
            for value in ((), (0,), (0, 0, 0)):
                self.assert_raises_with(BadShares, "value", value, call, SIZES, {"a": value})
            self.assert_raises_with(BadShares, "value", (0,), call, SIZES, {"b": (0,), "c": (0, 0)})
            self.assert_raises_with(BadShares, "value", (0, 0), call, SIZES, {"b": (), "c": (0, 0)})

    def test_numbers_from_the_prime_on(self):
        for prime in PRIMES:
            scheme = Scheme(prime, 1, {"a": [(1,)]})
            self.assertEqual(fitting(scheme, {"a": (prime - 1,)}), [prime - 1])
            for number in (prime, prime + 1, -1, -prime):
                for call in READERS:
                    self.assert_raises_with(BadShares, "value", (number,), call, scheme, {"a": (number,)})

    def test_any_secret_that_is_no_number(self):
        for prime in PRIMES:
            scheme = Scheme(prime, 2, {"a": [(1, 1)]})
            for value in no_numbers(prime):
                for shares in ({}, {"a": (0,)}):
                    held = self.assert_raises_with(BadNumber, "value", value, ways, scheme, shares, value)
                    self.assertIs(held, value)
            self.assertEqual(ways(scheme, {"a": (0,)}, prime - 1), 1)

    def test_the_secret_comes_last(self):
        self.assert_raises_with(UnknownName, "name", "d", ways, EXAMPLE, {"d": None, "a": None}, None)
        self.assert_raises_with(BadShares, "value", None, ways, EXAMPLE, {"a": None}, None)
        self.assert_raises_with(BadNumber, "value", None, ways, EXAMPLE, {"a": (0,)}, None)


class Points32And33(unittest.TestCase):
    def test_the_example(self):
        self.assertEqual(fitting(EXAMPLE, {"a": (0,)}), [0, 1, 2])
        self.assertEqual(ways(EXAMPLE, {"a": (0,)}, 1), 1)

    def test_shares_of_every_group(self):
        for scheme, group in schemes_and_groups():
            for shares in all_shares(scheme, group)[::5][:12]:
                self.check(scheme, shares)

    def test_dealt_shares_of_every_group(self):
        for scheme in some_schemes():
            for numbers in all_rows(scheme.prime, scheme.width)[1::7][:8]:
                given = deal(scheme, numbers[0], numbers[1:])
                for group in subsets(scheme.persons):
                    shares = of_group(given, group)
                    self.check(scheme, shares)
                    self.assertIn(numbers[0], fitting(scheme, shares))
                    self.assertGreater(ways(scheme, shares, numbers[0]), 0)

    def check(self, scheme, shares):
        kept = deepcopy(shares)
        expected = all_ways(scheme, shares)
        counts = [ways(scheme, shares, secret) for secret in range(scheme.prime)]
        self.assertEqual(counts, expected)
        self.assertEqual({type(count) for count in counts}, {int})
        found = fitting(scheme, shares)
        self.assertIs(type(found), list)
        self.assertEqual(found, [secret for secret in range(scheme.prime) if expected[secret]])
        self.assertEqual({type(secret) for secret in found} | {int}, {int})
        self.assertEqual(shares, kept)
        if group_opens(scheme, tuple(sorted(shares))):
            self.assertLessEqual(len(found), 1)
        else:
            self.assertEqual(len(set(counts)), 1)
            self.assertIn(len(found), (0, scheme.prime))

    def test_no_shares(self):
        for scheme in some_schemes():
            self.assertEqual(fitting(scheme, {}), list(range(scheme.prime)))
            for secret in range(scheme.prime):
                self.assertEqual(ways(scheme, {}, secret), scheme.prime ** (scheme.width - 1))

    def test_persons_without_rows(self):
        self.assertEqual(fitting(SIZES, {"b": ()}), [0, 1, 2])
        self.assertEqual(fitting(SIZES, {"b": (), "c": (2,)}), [2])
        self.assertEqual(ways(SIZES, {"b": ()}, 2), 3)

    def test_one_secret_none_and_all(self):
        self.assertEqual(fitting(SIZES, {"a": (2, 1), "c": (1,)}), [1])
        self.assertEqual(fitting(SIZES, {"a": (2, 1), "c": (0,)}), [])
        self.assertEqual(ways(SIZES, {"a": (2, 1), "c": (0,)}, 1), 0)
        # A blind group, too, can have shares that no dealer deals.
        scheme = Scheme(3, 2, {"a": [(0, 1), (0, 2)], "b": [(0, 0)]})
        self.assertEqual(fitting(scheme, {"a": (1, 2)}), [0, 1, 2])
        self.assertEqual(fitting(scheme, {"a": (1, 1)}), [])
        self.assertEqual(fitting(scheme, {"b": (0,)}), [0, 1, 2])
        self.assertEqual(fitting(scheme, {"b": (1,)}), [])

    def test_the_order_of_the_keys_has_no_meaning(self):
        shares = {"a": (0,), "b": (1,), "c": (1,)}
        turned = {name: shares[name] for name in "cba"}
        self.assertEqual(fitting(EXAMPLE, turned), fitting(shares=shares, scheme=EXAMPLE))
        self.assertEqual(ways(EXAMPLE, turned, 2), ways(secret=2, shares=shares, scheme=EXAMPLE))
        self.assertEqual(list(turned), ["c", "b", "a"])

    def test_returned_lists_are_new(self):
        fitting(EXAMPLE, {}).append(3)
        self.assertEqual(fitting(EXAMPLE, {}), [0, 1, 2])

    def test_great_schemes(self):
        for seed, prime, width, sizes in [(1, 11, 40, [16] * 5), (2, 7, 40, [16, 10, 3, 0, 1]), (3, 2, 40, [13] * 3)]:
            scheme = random_scheme(seed, prime, width, sizes)
            numbers = [at * at % prime for at in range(1, width)]
            given = deal(scheme, prime - 1, numbers)
            for group in subsets(scheme.persons):
                shares = of_group(given, group)
                left = width - scheme.rank(group)
                if scheme.opens(group):
                    self.assertEqual(fitting(scheme, shares), [prime - 1])
                    self.assertEqual(ways(scheme, shares, prime - 1), prime**left)
                    self.assertEqual(ways(scheme, shares, 0), 0)
                else:
                    self.assertEqual(fitting(scheme, shares), list(range(prime)))
                    self.assertEqual(ways(scheme, shares, 0), prime ** (left - 1))


class FivePersons(unittest.TestCase):
    def test_a_person_with_16_rows(self):
        rows = [(at % 3, 1) for at in range(16)]
        scheme = Scheme(3, 2, {name: rows for name in NAMES})
        given = deal(scheme, 2, [1])
        self.assertEqual(given["e"], tuple((2 * at + 1) % 3 for at in range(16)))
        self.assertEqual(fitting(scheme, {"e": given["e"]}), [2])
        self.assertEqual(ways(scheme, given, 2), 1)


if __name__ == "__main__":
    unittest.main()
