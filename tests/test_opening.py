"""Points 10 and 34 to 36: open_shares, agreeing and added."""

import unittest
from copy import deepcopy

from openshares.dealing import added, agreeing, deal, fitting, open_shares
from openshares.errors import BadGroup, BadShares, BlindGroup, UnknownName
from openshares.schemes import Scheme
from tests.checking import ShareTest
from tests.reckoning import all_rows, all_shares, all_ways, group_opens, of_group, random_scheme, schemes_and_groups
from tests.reckoning import some_schemes
from tests.samples import subsets

EXAMPLE = Scheme(3, 2, {"a": [(1, 1)], "b": [(1, 2)], "c": [(0, 1)]})
SIZES = Scheme(3, 2, {"a": [(1, 1), (0, 1)], "b": [], "c": [(1, 0)]})


class Point34(ShareTest):
    def test_the_examples(self):
        self.assertEqual(open_shares(EXAMPLE, {"a": (0,), "c": (1,)}), 2)
        scheme = Scheme(3, 2, {"a": [(1, 1)], "c": [(0, 1)]})
        self.assert_raises_with(BlindGroup, "value", ("a",), open_shares, scheme, {"a": (0,)})

    def test_dealt_shares(self):
        for scheme in some_schemes():
            for numbers in all_rows(scheme.prime, scheme.width)[::3]:
                given = deal(scheme, numbers[0], numbers[1:])
                for group in subsets(scheme.persons):
                    shares = of_group(given, group)
                    if group_opens(scheme, group):
                        self.assertEqual(open_shares(scheme, shares), numbers[0])
                    else:
                        self.assert_raises_with(BlindGroup, "value", group, open_shares, scheme, shares)

    def test_any_shares(self):
        for scheme, group in schemes_and_groups():
            for shares in all_shares(scheme, group)[::5][:12]:
                fit = [secret for secret, count in enumerate(all_ways(scheme, shares)) if count]
                if not group_opens(scheme, group):
                    self.assert_raises_with(BlindGroup, "value", group, open_shares, scheme, shares)
                elif fit:
                    found = open_shares(shares=shares, scheme=scheme)
                    self.assertIs(type(found), int)
                    self.assertEqual([found], fit)
                else:
                    held = self.assert_raises_with(BadShares, "value", shares, open_shares, scheme, shares)
                    self.assertIs(held, shares)

    def test_no_shares_and_persons_without_rows(self):
        self.assert_raises_with(BlindGroup, "value", (), open_shares, EXAMPLE, {})
        self.assert_raises_with(BlindGroup, "value", ("b",), open_shares, SIZES, {"b": ()})
        self.assertEqual(open_shares(SIZES, {"b": (), "c": (2,)}), 2)

    def test_the_order_of_the_keys(self):
        self.assertEqual(open_shares(EXAMPLE, {"c": (1,), "a": (0,)}), 2)
        # The group is told in ascending order, whatever the order of the keys.
        scheme = Scheme(3, 3, {"a": [(1, 1, 0)], "b": [(0, 1, 1)], "c": [(0, 0, 1)]})
        self.assert_raises_with(BlindGroup, "value", ("b", "c"), open_shares, scheme, {"c": (1,), "b": (0,)})

    def test_a_blind_group_comes_before_shares_that_fit_no_secret(self):
        scheme = Scheme(3, 2, {"a": [(0, 1), (0, 2)], "b": [(1, 0)]})
        shares = {"b": (2,), "a": (1, 1)}
        self.assert_raises_with(BlindGroup, "value", ("a",), open_shares, scheme, {"a": (1, 1)})
        held = self.assert_raises_with(BadShares, "value", shares, open_shares, scheme, shares)
        self.assertIs(held, shares)
        self.assertEqual(shares, {"b": (2,), "a": (1, 1)})

    def test_the_shares_come_before_the_blind_group(self):
        self.assert_raises_with(UnknownName, "name", "d", open_shares, EXAMPLE, {"a": None, "d": (0,)})
        self.assert_raises_with(BadShares, "value", [0], open_shares, EXAMPLE, {"a": [0]})


class Point35(unittest.TestCase):
    def test_the_example(self):
        self.assertEqual(
            agreeing(EXAMPLE, {"a": (0,), "b": (2,), "c": (1,)}),
            [(), ("a",), ("b",), ("c",), ("a", "b"), ("a", "c"), ("b", "c")],
        )

    def test_any_shares(self):
        for scheme, group in schemes_and_groups():
            for shares in all_shares(scheme, group)[::7][:8]:
                kept = deepcopy(shares)
                found = agreeing(scheme, shares)
                self.assertIs(type(found), list)
                self.assertEqual(found, [
                    other for other in subsets(group) if any(all_ways(scheme, of_group(shares, other)))
                ])
                self.assertEqual(shares, kept)
                self.assertEqual(agreeing(shares={name: shares[name] for name in group[::-1]}, scheme=scheme), found)

    def test_what_a_group_contains(self):
        for scheme in some_schemes():
            for shares in all_shares(scheme, scheme.persons)[::11][:10]:
                found = agreeing(scheme, shares)
                self.assertEqual(found[0], ())
                for group in found:
                    for other in subsets(group):
                        self.assertIn(other, found)

    def test_dealt_shares(self):
        for scheme in some_schemes():
            for numbers in all_rows(scheme.prime, scheme.width)[::9]:
                given = deal(scheme, numbers[0], numbers[1:])
                self.assertEqual(agreeing(scheme, given), subsets(scheme.persons))

    def test_no_shares(self):
        self.assertEqual(agreeing(EXAMPLE, {}), [()])
        self.assertEqual(agreeing(SIZES, {"b": ()}), [(), ("b",)])

    def test_a_person_whose_shares_fit_nothing(self):
        scheme = Scheme(2, 2, {"a": [(1, 0), (1, 0)], "b": [(0, 0)], "c": [(1, 0)]})
        self.assertEqual(agreeing(scheme, {"a": (0, 1), "b": (0,), "c": (1,)}), [(), ("b",), ("c",), ("b", "c")])
        self.assertEqual(agreeing(scheme, {"a": (0, 1), "b": (1,)}), [()])

    def test_returned_lists_are_new(self):
        agreeing(EXAMPLE, {}).clear()
        self.assertEqual(agreeing(EXAMPLE, {}), [()])


class Point36(ShareTest):
    def test_the_example(self):
        self.assertEqual(added(EXAMPLE, {"a": (2,)}, {"a": (2,)}), {"a": (1,)})

    def test_any_shares(self):
        for scheme, group in schemes_and_groups():
            for one in all_shares(scheme, group)[::5][:5]:
                for other in all_shares(scheme, group)[::-3][:5]:
                    found = added(scheme, one, other)
                    self.assertIs(type(found), dict)
                    self.assertEqual(found, {
                        name: tuple((x + y) % scheme.prime for x, y in zip(one[name], other[name])) for name in group
                    })
                    for value in found.values():
                        self.assertIs(type(value), tuple)

    def test_the_secrets_are_added(self):
        for scheme, group in schemes_and_groups():
            for one in all_shares(scheme, group)[::5][:5]:
                for other in all_shares(scheme, group)[::-3][:5]:
                    both = fitting(scheme, added(scheme, one, other))
                    for first in fitting(scheme, one):
                        for second in fitting(scheme, other):
                            self.assertIn((first + second) % scheme.prime, both)

    def test_great_schemes(self):
        scheme = random_scheme(9, 11, 40, [16] * 5)
        one = deal(scheme, 10, [at % 11 for at in range(39)])
        other = deal(scheme, 7, [at * at % 11 for at in range(39)])
        self.assertEqual(added(scheme, one, other), deal(scheme, 6, [(at + at * at) % 11 for at in range(39)]))

    def test_no_shares_and_persons_without_rows(self):
        self.assertEqual(added(EXAMPLE, {}, {}), {})
        self.assertEqual(added(SIZES, {"b": ()}, {"b": ()}), {"b": ()})

    def test_other_groups(self):
        for one, other, group in [
            ({"a": (0,)}, {}, ()), ({}, {"a": (0,)}, ("a",)), ({"a": (0,)}, {"b": (0,)}, ("b",)),
            ({"a": (0,)}, {"c": (0,), "a": (1,)}, ("a", "c")), ({"b": (1,), "a": (0,)}, {"a": (0,)}, ("a",)),
            ({}, {"c": (0,), "b": (2,), "a": (1,)}, ("a", "b", "c")),
        ]:
            self.assert_raises_with(BadGroup, "value", group, added, EXAMPLE, one, other)

    def test_the_order_of_the_errors(self):
        bad, unknown = {"a": [0]}, {"d": (0,)}
        self.assert_raises_with(BadShares, "value", [0], added, EXAMPLE, bad, unknown)
        self.assert_raises_with(UnknownName, "name", "d", added, EXAMPLE, unknown, bad)
        self.assert_raises_with(UnknownName, "name", "e", added, EXAMPLE, {"e": None}, {"d": None})
        self.assert_raises_with(UnknownName, "name", "d", added, EXAMPLE, {"a": (0,)}, {"d": (0,), "b": None})
        self.assert_raises_with(BadShares, "value", (3,), added, EXAMPLE, {"a": (0,)}, {"b": (3,)})
        self.assert_raises_with(BadGroup, "value", ("b",), added, EXAMPLE, {"a": (0,)}, {"b": (2,)})

    def test_arguments_stay_and_keys_have_no_order(self):
        one, other = {"c": (1,), "a": (2,)}, {"a": (2,), "c": (2,)}
        found = added(other=other, one=one, scheme=EXAMPLE)
        self.assertEqual(found, {"a": (1,), "c": (0,)})
        self.assertEqual((list(one.items()), other), ([("c", (1,)), ("a", (2,))], {"a": (2,), "c": (2,)}))
        found["a"] = None
        self.assertEqual(added(EXAMPLE, one, other), {"a": (1,), "c": (0,)})


if __name__ == "__main__":
    unittest.main()
