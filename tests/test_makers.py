"""Points 9, 10 and 37 to 41: plain_scheme, threshold_scheme, turned_scheme and lean_scheme."""

import unittest
from itertools import permutations

from openshares.errors import BadCount, BadName, BadPrime, DuplicateName, NoGroup
from openshares.families import Family
from openshares.makers import lean_scheme, plain_scheme, threshold_scheme, turned_scheme
from openshares.schemes import Scheme, fits
from tests.checking import ShareTest
from tests.reckoning import NO_PRIMES, PRIMES, edge_schemes, group_opens, random_scheme, some_schemes, sums
from tests.samples import NAMES, all_families, opening, some_families, subsets

ROW = Family(["a", "b", "c"], [("a", "b"), ("b", "c")])


def great_schemes():
    """Schemes that are as great as they may be, or nearly."""
    found = [
        random_scheme(40, 11, 40, [16] * 5), random_scheme(41, 2, 40, [16] * 5), random_scheme(42, 5, 40, [16, 8, 16, 0, 3]),
        random_scheme(43, 3, 40, [13, 14, 16]), random_scheme(44, 7, 1, [16] * 5), random_scheme(45, 2, 12, [4] * 5),
    ]
    # Rows that are the same, or zeros, many times.
    rows = {name: [(1,) + (0,) * at + (1,) + (0,) * (38 - at)] * 16 for at, name in enumerate(NAMES)}
    rows["e"] = [(0, 1) + (0,) * 38, (0,) * 40] * 8
    return found + [Scheme(3, 40, rows)]


def schemes_that_open():
    return [scheme for scheme in some_schemes() + great_schemes() if scheme.opens(scheme.persons)]


def plain_rows(family, prime):
    """Point 37, word by word."""
    free = 1 + sum(len(group) - 1 for group in family.groups)
    rows, spot = {name: [] for name in family.persons}, 1
    for group in family.groups:
        last = [1] + [0] * (free - 1)
        for name in group[:-1]:
            row = [0] * free
            row[spot], last[spot] = 1, prime - 1
            rows[name].append(tuple(row))
            spot += 1
        rows[group[-1]].append(tuple(last))
    return free, rows


class Points37And38(ShareTest):
    def test_the_example(self):
        scheme = plain_scheme(ROW, 3)
        self.assertEqual([scheme.width, scheme.rows("a"), scheme.rows("b"), scheme.rows("c")], [
            3, [(0, 1, 0)], [(1, 2, 0), (0, 0, 1)], [(1, 0, 2)],
        ])

    def test_the_rows_of_every_family(self):
        for family in some_families():
            for prime in PRIMES:
                scheme = plain_scheme(family, prime)
                self.assertIs(type(scheme), Scheme)
                self.assertEqual((scheme.prime, scheme.persons), (prime, family.persons))
                width, rows = plain_rows(family, prime)
                self.assertEqual(scheme.width, width)
                self.assertEqual({name: scheme.rows(name) for name in scheme.persons}, rows)

    def test_just_the_groups_of_the_family_open(self):
        families = some_families()
        for at, family in enumerate(families):
            # Over each of the primes for up to three persons, over one of them in turn for more.
            for prime in PRIMES if len(family.persons) < 4 else [PRIMES[at % 5]]:
                scheme = plain_scheme(family, prime)
                found = {group for group in subsets(family.persons) if scheme.opens(group)}
                self.assertEqual(found, opening(family))
                self.assertEqual(scheme.family(), family)

    def test_by_trying_all_factors(self):
        for many in (1, 2, 3):
            for family in all_families(NAMES[:many]):
                for prime in (2, 3):
                    scheme = plain_scheme(family, prime)
                    found = {group for group in subsets(family.persons) if group_opens(scheme, group)}
                    self.assertEqual(found, opening(family))

    def test_every_prime_for_five_persons(self):
        families = [Family.threshold(NAMES, many) for many in range(1, 6)]
        families += all_families(NAMES)[7::600]
        for family in families:
            for prime in PRIMES:
                self.assertTrue(fits(plain_scheme(family, prime), family))

    def test_the_greatest_width(self):
        scheme = plain_scheme(Family.threshold(NAMES, 3), 11)
        self.assertEqual((scheme.width, scheme.size("a"), scheme.size("e")), (21, 6, 6))

    def test_edges(self):
        scheme = plain_scheme(Family(["a"], [("a",)]), 7)
        self.assertEqual((scheme.width, scheme.rows("a")), (1, [(1,)]))
        scheme = plain_scheme(Family(["a", "b", "c"], [("b",)]), 2)
        self.assertEqual((scheme.width, scheme.rows("a"), scheme.rows("b"), scheme.rows("c")), (1, [], [(1,)], []))
        scheme = plain_scheme(Family(["a", "b"], [("a", "b")]), 11)
        self.assertEqual((scheme.width, scheme.rows("a"), scheme.rows("b")), (2, [(0, 1)], [(1, 10)]))

    def test_any_value_that_is_no_prime(self):
        for value in NO_PRIMES:
            held = self.assert_raises_with(BadPrime, "number", value, plain_scheme, ROW, value)
            self.assertIs(held, value)

    def test_equal_families_give_equal_schemes(self):
        other = Family(("c", "b", "a"), (("b", "c"), ("a", "b", "c"), ("a", "b")))
        for prime in PRIMES:
            self.assertEqual(plain_scheme(family=ROW, prime=prime), plain_scheme(other, prime))
            plain_scheme(Family.threshold(NAMES, 2), prime)
            self.assertEqual(plain_scheme(ROW, prime), plain_scheme(other, prime))
        self.assertEqual(str(ROW), "a b c: a b / b c")


class Point39(ShareTest):
    def test_the_example(self):
        self.assertEqual(threshold_scheme(["a", "b", "c"], 2, 5).rows("c"), [(1, 3)])

    def test_every_threshold(self):
        for count in range(1, 6):
            persons = NAMES[:count]
            for many in range(1, count + 1):
                for prime in [prime for prime in PRIMES if prime > count]:
                    scheme = threshold_scheme(list(persons[::-1]), many, prime)
                    self.assertEqual((scheme.prime, scheme.width, scheme.persons), (prime, many, persons))
                    for number, name in enumerate(persons, start=1):
                        self.assertEqual(scheme.rows(name), [tuple(number**power % prime for power in range(many))])
                    self.assertEqual(scheme.family(), Family.threshold(persons, many))

    def test_the_order_of_the_list_has_no_meaning(self):
        expected = threshold_scheme(["a10", "a2", "b"], 3, 7)
        self.assertEqual(expected.rows("a2"), [(1, 2, 4)])
        self.assertEqual(expected.rows("b"), [(1, 3, 2)])
        for names in permutations(["a10", "a2", "b"]):
            self.assertEqual(threshold_scheme(names, 3, 7), expected)
            self.assertEqual(threshold_scheme(prime=7, many=3, persons=list(names)), expected)

    def test_what_the_threshold_raises(self):
        six = ["a", "b", "c", "d", "e", "f"]
        for prime in (7, 2, 4, None):
            self.assert_raises_with(BadCount, "count", 0, threshold_scheme, [], 1, prime)
            self.assert_raises_with(BadCount, "count", 6, threshold_scheme, six, 0, prime)
            self.assert_raises_with(BadName, "name", "A", threshold_scheme, ["a", "A", "a"], 0, prime)
            self.assert_raises_with(DuplicateName, "name", "a", threshold_scheme, ["a", "a", "A"], 0, prime)
            for many in (0, -1, 4, 5, 2**80):
                self.assert_raises_with(BadCount, "count", many, threshold_scheme, ["a", "b", "c"], many, prime)

    def test_any_value_that_is_no_prime(self):
        for value in NO_PRIMES:
            held = self.assert_raises_with(BadPrime, "number", value, threshold_scheme, ["a"], 1, value)
            self.assertIs(held, value)

    def test_primes_that_are_not_above_the_number_of_persons(self):
        for count in range(1, 6):
            for many in range(1, count + 1):
                for prime in [prime for prime in PRIMES if prime <= count]:
                    self.assert_raises_with(BadPrime, "number", prime, threshold_scheme, NAMES[:count], many, prime)
        self.assertEqual(threshold_scheme(["a"], 1, 2).rows("a"), [(1,)])
        self.assertEqual(threshold_scheme(["a", "b"], 2, 3).rows("b"), [(1, 2)])

    def test_the_list_stays(self):
        names = ["c", "a"]
        threshold_scheme(names, 1, 5)
        self.assertEqual(names, ["c", "a"])


class Point40(ShareTest):
    def test_the_example(self):
        self.assertEqual(str(turned_scheme(plain_scheme(ROW, 3)).family()), "a b c: b / a c")

    def check(self, scheme):
        before = {name: scheme.rows(name) for name in scheme.persons}
        turned = turned_scheme(scheme)
        self.assertIs(type(turned), Scheme)
        self.assertEqual((turned.prime, turned.persons), (scheme.prime, scheme.persons))
        self.assertLessEqual(turned.width, 40)
        for name in scheme.persons:
            self.assertEqual(turned.size(name), scheme.size(name))
        for group in subsets(scheme.persons):
            others = tuple(name for name in scheme.persons if name not in group)
            self.assertIs(turned.opens(group), not scheme.opens(others))
        self.assertEqual(turned.family(), scheme.family().turned())
        self.assertEqual({name: scheme.rows(name) for name in scheme.persons}, before)
        self.assertEqual(turned_scheme(scheme=scheme), turned)

    def test_many_schemes(self):
        for scheme in schemes_that_open():
            self.check(scheme)

    def test_plain_schemes(self):
        for at, family in enumerate(some_families()[::3]):
            self.check(plain_scheme(family, PRIMES[at % 5]))

    def test_turned_twice(self):
        for scheme in schemes_that_open()[::3]:
            self.assertEqual(turned_scheme(turned_scheme(scheme)).family(), scheme.family())

    def test_schemes_of_ten_least_groups(self):
        for many in (2, 3):
            scheme = threshold_scheme(NAMES, many, 7)
            self.check(scheme)
            self.check(plain_scheme(Family.threshold(NAMES, many), 2))

    def test_nobody_opens(self):
        for scheme in (
            Scheme(2, 1, {"a": []}), Scheme(3, 2, {"a": [(0, 0)], "b": [(0, 1), (0, 2)]}),
            Scheme(11, 1, {name: [(0,)] * 16 for name in NAMES}),
            Scheme(2, 40, {name: [(1,) * 40] * 16 for name in NAMES}),
        ):
            self.assert_raises_bare(NoGroup, turned_scheme, scheme)


class Point41(ShareTest):
    def test_the_example(self):
        self.assertEqual(lean_scheme(Scheme(2, 2, {"a": [(1, 1), (1, 1), (0, 0)], "b": [(0, 1)]})).size("a"), 1)

    def check(self, scheme):
        before = {name: scheme.rows(name) for name in scheme.persons}
        lean = lean_scheme(scheme)
        self.assertIs(type(lean), Scheme)
        self.assertEqual((lean.prime, lean.persons), (scheme.prime, scheme.persons))
        self.assertLessEqual(lean.width, 40)
        for group in subsets(scheme.persons):
            self.assertIs(lean.opens(group), scheme.opens(group))
        for name in scheme.persons:
            self.assertLessEqual(lean.size(name), scheme.size(name))
            self.assertEqual(lean.rank((name,)), lean.size(name))
            self.assertNotIn((0,) * lean.width, lean.rows(name))
        self.assertEqual({name: scheme.rows(name) for name in scheme.persons}, before)
        self.assertEqual(lean_scheme(scheme=scheme), lean)

    def test_many_schemes(self):
        for scheme in schemes_that_open():
            self.check(scheme)
        for family in some_families()[::9]:
            self.check(plain_scheme(family, 5))

    def test_by_all_sums_of_the_rows_before(self):
        for scheme in [scheme for scheme in some_schemes() if scheme.opens(scheme.persons)]:
            lean = lean_scheme(scheme)
            for name in lean.persons:
                rows = lean.rows(name)
                for at, row in enumerate(rows):
                    self.assertNotIn(row, sums(lean.prime, rows[:at], lean.width))

    def test_sums_of_several_rows_before(self):
        scheme = Scheme(5, 3, {
            "a": [(0, 0, 0), (0, 1, 0), (0, 0, 2), (0, 3, 3), (1, 1, 1), (2, 0, 0)], "b": [(0, 0, 0)], "c": [(3, 0, 0)],
        })
        self.check(scheme)
        lean = lean_scheme(scheme)
        self.assertEqual([lean.size(name) for name in "abc"], [3, 0, 1])

    def test_nobody_opens(self):
        for scheme in (Scheme(2, 1, {"a": []}), Scheme(5, 2, {"a": [(0, 1)] * 16, "b": [(0, 0)]}), edge_schemes()[3]):
            self.assert_raises_bare(NoGroup, lean_scheme, scheme)


class Point9(unittest.TestCase):
    def test_for_every_family_and_prime_there_is_a_scheme_and_a_turned_one_with_as_many_rows(self):
        for family in some_families()[5::29]:
            for prime in PRIMES:
                scheme = plain_scheme(family, prime)
                turned = turned_scheme(scheme)
                self.assertTrue(fits(scheme, family))
                self.assertTrue(fits(turned, family.turned()))
                sizes = [scheme.size(name) for name in family.persons]
                self.assertEqual([turned.size(name) for name in family.persons], sizes)


if __name__ == "__main__":
    unittest.main()
