"""Points 8, 9 and 27 to 29: which groups open, what shows it, the family of a scheme, and fits."""

import unittest
from copy import deepcopy

from openshares.errors import BadGroup, NoGroup
from openshares.families import Family
from openshares.schemes import Scheme, check_blind, check_factors, fits
from tests.checking import ShareTest
from tests.reckoning import all_rows, goal, group_blind, group_opens, group_rows, no_rows, random_scheme
from tests.reckoning import schemes_and_groups, some_schemes, times, total
from tests.samples import NAMES, NO_GROUPS_OF_ABC, all_families, opening, subsets

EXAMPLE = Scheme(3, 2, {"a": [(1, 1)], "b": [(1, 2)], "c": [(0, 1)]})
NOBODY = Scheme(3, 2, {"a": [(0, 0)], "b": [(0, 1), (0, 2)], "c": []})
ALONE = Scheme(5, 2, {"a": [(1, 0)], "b": [(3, 0)], "c": [(0, 0), (2, 0)]})
TOGETHER = Scheme(2, 3, {"a": [(1, 1, 0)], "b": [(0, 1, 1)], "c": [(0, 0, 1)]})
METHODS = ("opens", "factors", "blind")


def shows_opening(scheme, group, factors):
    """Point 27, word by word, reckoned without the program."""
    keys = [(name, number) for name in group for number in range(scheme.size(name))]
    if any(key not in keys for key in factors):
        return False
    if any(type(factor) is not int or not 1 <= factor < scheme.prime for factor in factors.values()):
        return False
    rows = [scheme.rows(name)[number] for name, number in factors]
    return total(scheme.prime, list(factors.values()), rows, scheme.width) == goal(scheme.width)


def great_schemes():
    return [
        random_scheme(1, 2, 40, [16, 16, 16, 16, 16]), random_scheme(2, 11, 40, [16, 15, 10, 0, 1]),
        random_scheme(3, 7, 17, [16, 1, 2, 3, 4]), random_scheme(4, 3, 1, [16, 0, 16, 0, 16]),
        random_scheme(5, 5, 40, [16, 16, 7, 1, 0]),
    ]


class Point27(ShareTest):
    def test_the_example(self):
        self.assertEqual([EXAMPLE.opens(("a", "b")), EXAMPLE.opens(("c",))], [True, False])
        self.assertEqual(EXAMPLE.factors(("a", "c")), {("a", 0): 1, ("c", 0): 2})
        self.assertEqual(EXAMPLE.blind(("a",)), (1, 2))

    def test_opens_in_every_scheme(self):
        for scheme, group in schemes_and_groups():
            self.assertIs(scheme.opens(group), group_opens(scheme, group))

    def test_factors_in_every_scheme(self):
        for scheme, group in schemes_and_groups():
            found = scheme.factors(group)
            if group_opens(scheme, group):
                self.assertIs(type(found), dict)
                self.assertTrue(shows_opening(scheme, group, found), (found, group))
            else:
                self.assertIsNone(found)

    def test_blind_in_every_scheme(self):
        for scheme, group in schemes_and_groups():
            found = scheme.blind(group)
            if group_blind(scheme, group):
                self.assertIs(type(found), tuple)
                self.assertEqual((len(found), found[0]), (scheme.width, 1))
                for number in found:
                    self.assertIs(type(number), int)
                    self.assertIn(number, range(scheme.prime))
                self.assertEqual({times(scheme.prime, found, row) for row in group_rows(scheme, group)} - {0}, set())
            else:
                self.assertIsNone(found)

    def test_the_empty_group(self):
        for scheme in some_schemes():
            self.assertIs(scheme.opens(()), False)
            self.assertIsNone(scheme.factors(()))
            self.assertEqual(scheme.blind(())[0], 1)

    def test_edges(self):
        self.assertEqual(ALONE.factors(("b",)), {("b", 0): 2})
        self.assertEqual(ALONE.factors(("c",)), {("c", 1): 3})
        for group in subsets(("a", "b", "c")):
            self.assertIs(NOBODY.opens(group), False)
            self.assertIs(ALONE.opens(group), group != ())
            self.assertIs(TOGETHER.opens(group), group == ("a", "b", "c"))
        self.assertEqual(TOGETHER.factors(("a", "b", "c")), {("a", 0): 1, ("b", 0): 1, ("c", 0): 1})

    def test_great_schemes(self):
        for scheme in great_schemes():
            for group in subsets(scheme.persons):
                factors, blind = scheme.factors(group), scheme.blind(group)
                self.assertEqual(factors is None, blind is not None)
                self.assertIs(scheme.opens(group), blind is None)
                if blind is None:
                    self.assertTrue(shows_opening(scheme, group, factors))
                    self.assertIs(check_factors(scheme, group, factors), True)
                else:
                    self.assertEqual({times(scheme.prime, blind, row) for row in group_rows(scheme, group)} - {0}, set())
                    self.assertIs(check_blind(scheme, group, blind), True)

    def test_any_value_that_is_no_group(self):
        for word in METHODS:
            for value in NO_GROUPS_OF_ABC:
                held = self.assert_raises_with(BadGroup, "value", value, getattr(EXAMPLE, word), value)
                self.assertIs(held, value)

    def test_by_name(self):
        self.assertEqual(EXAMPLE.opens(group=("a", "b")), True)
        self.assertEqual(EXAMPLE.factors(group=("a", "c")), {("a", 0): 1, ("c", 0): 2})
        self.assertEqual(EXAMPLE.blind(group=("a",)), (1, 2))

    def test_the_dict_of_factors_is_new(self):
        found = EXAMPLE.factors(("a", "c"))
        found.clear()
        self.assertEqual(EXAMPLE.factors(("a", "c")), {("a", 0): 1, ("c", 0): 2})

    def test_equal_schemes_give_equal_results(self):
        for scheme in some_schemes():
            other = Scheme(scheme.prime, scheme.width, {
                name: tuple(scheme.rows(name)) for name in scheme.persons[::-1]
            })
            for group in subsets(scheme.persons):
                self.assertEqual(scheme.factors(group), other.factors(group))
                self.assertEqual(scheme.blind(group), other.blind(group))


class Points9And28(ShareTest):
    def test_exactly_one_is_none(self):
        for scheme, group in schemes_and_groups():
            self.assertEqual((scheme.factors(group) is None) + (scheme.blind(group) is None), 1)
            self.assertEqual(group_opens(scheme, group) + group_blind(scheme, group), 1)

    def test_what_factors_tells_is_accepted(self):
        for scheme, group in schemes_and_groups():
            found = scheme.factors(group)
            if found is not None:
                kept = dict(found)
                self.assertIs(check_factors(scheme, group, found), True)
                self.assertEqual(found, kept)
                turned = {key: found[key] for key in list(found)[::-1]}
                self.assertIs(check_factors(group=group, factors=turned, scheme=scheme), True)
                self.assertIs(check_factors(scheme, scheme.persons, found), True)

    def test_factors_changed_in_one_place(self):
        for scheme, group in schemes_and_groups():
            found = scheme.factors(group) or {}
            for key in found:
                for factor in (0, scheme.prime, found[key] + scheme.prime, found[key] - scheme.prime, -1, 2**80):
                    self.assertIs(check_factors(scheme, group, {**found, key: factor}), False)
                for factor in range(1, scheme.prime):
                    changed = {**found, key: factor}
                    self.assertIs(check_factors(scheme, group, changed), shows_opening(scheme, group, changed))
                less = {other: found[other] for other in found if other != key}
                self.assertIs(check_factors(scheme, group, less), shows_opening(scheme, group, less))
                self.assertIs(check_factors(scheme, tuple(name for name in group if name != key[0]), found), False)

    def test_any_factors_of_the_example(self):
        keys = [("a", 0), ("b", 0), ("c", 0)]
        for group in subsets(("a", "b", "c")):
            for factors in all_rows(5, 3):
                # 4 stands for no factor.
                given = {key: factor for key, factor in zip(keys, factors) if factor != 4}
                self.assertIs(check_factors(EXAMPLE, group, given), shows_opening(EXAMPLE, group, given))

    def test_the_example(self):
        self.assertIs(check_factors(EXAMPLE, ("a", "b"), {("a", 0): 2, ("b", 0): 2}), True)
        self.assertIs(check_blind(EXAMPLE, ("c",), (1, 0)), True)

    def test_factors_of_other_rows(self):
        scheme = Scheme(5, 2, {"a": [(1, 0), (0, 1)], "b": [(1, 0)], "c": []})
        self.assertIs(check_factors(scheme, ("a", "c"), {("a", 0): 1}), True)
        for key in (("a", 2), ("a", -1), ("a", -2), ("b", 0), ("c", 0), ("c", -1), ("d", 0), ("", 0), ("A", 0)):
            self.assertIs(check_factors(scheme, ("a", "c"), {key: 1}), False)
            self.assertIs(check_factors(scheme, ("a", "c"), {("a", 0): 1, key: 5}), False)
            self.assertIs(check_factors(scheme, ("a", "c"), {("a", 0): 1, key: 1}), False)
        self.assertIs(check_factors(scheme, ("a",), {("a", -2): 1}), False)

    def test_no_factors_and_factors_0(self):
        for scheme in (EXAMPLE, NOBODY, ALONE):
            for group in subsets(("a", "b", "c")):
                self.assertIs(check_factors(scheme, group, {}), False)
        self.assertIs(check_factors(ALONE, ("a",), {("a", 0): 1}), True)
        for other in (("a", 0), ("b", 0), ("c", 0), ("c", 1)):
            self.assertIs(check_factors(ALONE, ("a", "b", "c"), {("a", 0): 1, other: 0}), False)
            self.assertIs(check_factors(ALONE, ("a", "b", "c"), {("a", 0): 1, other: 5}), False)
        # A row of zeros may have any factor from 1 on.
        self.assertIs(check_factors(ALONE, ("a", "c"), {("a", 0): 1, ("c", 0): 4}), True)

    def test_true_and_false_are_no_integers(self):
        self.assertIs(check_factors(ALONE, ("a",), {("a", 0): True}), False)
        self.assertIs(check_factors(ALONE, ("a",), {("a", False): 1}), False)
        self.assertIs(check_factors(ALONE, ("c",), {("c", True): 3}), False)

    def test_check_factors_of_no_group(self):
        for value in NO_GROUPS_OF_ABC:
            for factors in ({}, {("a", 0): 1}, {("d", 7): 9}):
                held = self.assert_raises_with(BadGroup, "value", value, check_factors, EXAMPLE, value, factors)
                self.assertIs(held, value)

    def test_what_blind_tells_is_accepted(self):
        for scheme, group in schemes_and_groups():
            found = scheme.blind(group)
            if found is not None:
                self.assertIs(check_blind(scheme, group, found), True)
                self.assertIs(check_blind(row=found, group=(), scheme=scheme), True)
                self.assertIs(check_blind(scheme, group, list(found)), False)
                self.assertIs(check_blind(scheme, group, (True,) + found[1:]), False)
                self.assertIs(check_blind(scheme, group, found + (0,)), False)
                self.assertIs(check_blind(scheme, group, found[:-1]), False)
                for at, number in enumerate(found):
                    for other in (number + scheme.prime, number - scheme.prime, scheme.prime, -1, None, [number]):
                        self.assertIs(check_blind(scheme, group, found[:at] + (other,) + found[at + 1:]), False)

    def test_all_rows(self):
        for scheme, group in schemes_and_groups()[::3]:
            rows = group_rows(scheme, group)
            for row in all_rows(scheme.prime, scheme.width):
                expected = row[0] == 1 and all(times(scheme.prime, row, other) == 0 for other in rows)
                self.assertIs(check_blind(scheme, group, row), expected)

    def test_any_value_that_is_no_row(self):
        for scheme in (EXAMPLE, NOBODY):
            for group in ((), ("a",), ("c",)):
                for value in no_rows(scheme.prime, scheme.width):
                    kept = deepcopy(value)
                    self.assertIs(check_blind(scheme, group, value), False, value)
                    self.assertEqual(value, kept)

    def test_check_blind_of_no_group(self):
        for value in NO_GROUPS_OF_ABC:
            for row in ((1, 0), None, [1, 0]):
                held = self.assert_raises_with(BadGroup, "value", value, check_blind, EXAMPLE, value, row)
                self.assertIs(held, value)


class Point29(ShareTest):
    def test_the_example(self):
        self.assertEqual(str(EXAMPLE.family()), "a b c: a b / a c / b c")

    def test_the_family_of_every_scheme(self):
        for scheme in some_schemes():
            expected = {group for group in subsets(scheme.persons) if group_opens(scheme, group)}
            if expected:
                found = scheme.family()
                self.assertIsInstance(found, Family)
                self.assertEqual(found.persons, scheme.persons)
                self.assertEqual(opening(found), expected)
            else:
                self.assert_raises_bare(NoGroup, scheme.family)

    def test_edges(self):
        self.assert_raises_bare(NoGroup, NOBODY.family)
        self.assert_raises_bare(NoGroup, Scheme(2, 1, {"a": []}).family)
        self.assertEqual(str(ALONE.family()), "a b c: a / b / c")
        self.assertEqual(str(TOGETHER.family()), "a b c: a b c")
        self.assertEqual(str(Scheme(2, 2, {"a": [(1, 0)], "b": [], "c": [(1, 1)]}).family()), "a b c: a")

    def test_fits_every_family(self):
        for scheme in some_schemes():
            if len(scheme.persons) < 4:
                opens = {group for group in subsets(scheme.persons) if group_opens(scheme, group)}
                for family in all_families(scheme.persons):
                    self.assertIs(fits(scheme, family), opening(family) == opens)

    def test_fits_its_own_family(self):
        for scheme in some_schemes() + great_schemes():
            if scheme.opens(scheme.persons):
                self.assertIs(fits(family=scheme.family(), scheme=scheme), True)

    def test_nobody_opens(self):
        for family in all_families(("a", "b", "c")):
            self.assertIs(fits(NOBODY, family), False)

    def test_other_persons(self):
        scheme = Scheme(2, 1, {"a": [(1,)], "b": []})
        self.assertIs(fits(scheme, Family(["a", "b"], [("a",)])), True)
        for persons in (["a"], ["a", "c"], ["a", "b", "c"], ["a", "ab"], list(NAMES)):
            self.assertIs(fits(scheme, Family(persons, [("a",)])), False)
        self.assertIs(fits(Scheme(2, 1, {"a": [(1,)]}), Family(["b"], [("b",)])), False)


if __name__ == "__main__":
    unittest.main()
