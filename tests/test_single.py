"""Points 9, 45, 46 and 47 to 49: is_single, least_prime and one_each."""

import unittest

from openshares.circuits import is_port, port_rank
from openshares.errors import NotSingle
from openshares.families import Family
from openshares.makers import plain_scheme, threshold_scheme
from openshares.papers import Paper, paper_of
from openshares.schemes import Scheme, fits
from openshares.single import is_single, least_prime, one_each
from tests.checking import ShareTest
from tests.ports import is_paper, single_openings
from tests.reckoning import edge_schemes, group_opens, some_schemes
from tests.samples import NAMES, opening, some_families, subsets

RING = Family.read("a b c d: a b / a d / b c / c d")
ROW = Family.read("a b c d: a b / b c / c d")


class Point47(unittest.TestCase):
    def test_the_examples(self):
        two_of_three = Family.threshold(["a", "b", "c"], 2)
        self.assertEqual([least_prime(two_of_three), is_single(one_each(two_of_three))], [3, True])
        self.assertIs(fits(one_each(two_of_three), two_of_three), True)
        self.assertEqual([least_prime(RING), least_prime(ROW)], [2, None])

    def test_is_single(self):
        for scheme in some_schemes() + edge_schemes():
            expected = all(len(scheme.rows(name)) <= 1 for name in scheme.persons)
            self.assertIs(is_single(scheme), expected)
            self.assertIs(is_single(scheme=scheme), expected)

    def test_is_single_at_the_edges(self):
        self.assertIs(is_single(Scheme(2, 1, {"a": []})), True)
        self.assertIs(is_single(Scheme(2, 3, {name: [(0, 0, 0)] for name in NAMES})), True)
        self.assertIs(is_single(Scheme(2, 1, {"a": [(1,)], "b": []})), True)
        self.assertIs(is_single(Scheme(2, 1, {"a": [], "b": [(1,), (1,)]})), False)
        # One row would do for the second person, but there are two.
        self.assertIs(is_single(Scheme(3, 2, {"a": [(0, 1)], "b": [(0, 0), (0, 0)]})), False)
        self.assertIs(is_single(Scheme(2, 1, {**{name: [] for name in "abcd"}, "e": [(1,)] * 16})), False)

    def test_the_least_prime_of_every_family(self):
        openings = {
            (prime, many): single_openings(prime, many) for prime in (2, 3, 5) for many in range(1, 6)
        }
        counts = {None: 0, 2: 0, 3: 0, 5: 0}
        for family in some_families():
            text, opens = str(family), opening(family)
            expected = [prime for prime in (2, 3, 5) if opens in openings[prime, len(family.persons)]] + [None]
            found = least_prime(family)
            self.assertEqual(found, expected[0], text)
            self.assertIn(type(found), (int, type(None)))
            self.assertEqual(str(family), text)
            counts[found] += 1
        self.assertGreater(min(counts.values()), 5)

    def test_thresholds(self):
        known = {
            1: {1: 2}, 2: {1: 2, 2: 2}, 3: {1: 2, 2: 3, 3: 2}, 4: {1: 2, 2: 5, 3: 5, 4: 2},
            5: {1: 2, 2: 5, 3: 5, 4: 5, 5: 2},
        }
        for count, primes in known.items():
            for many, prime in primes.items():
                self.assertEqual(least_prime(Family.threshold(NAMES[:count], many)), prime, (count, many))

    def test_persons_who_are_not_needed_and_other_names(self):
        self.assertEqual(least_prime(Family(["x1", "b", "zz9", "q"], [("b", "zz9"), ("b", "x1"), ("x1", "zz9")])), 3)
        self.assertEqual(least_prime(family=Family(NAMES, [("e",)])), 2)


class Point48(ShareTest):
    def test_every_family(self):
        for family in some_families():
            prime = least_prime(family)
            if prime is None:
                paper = self.assert_raises_with_paper(family)
                self.assertTrue(is_paper(family, paper.pair, paper.chain, paper.parts))
                continue
            scheme = one_each(family)
            self.assertIs(type(scheme), Scheme)
            self.assertEqual((scheme.prime, scheme.persons), (prime, family.persons))
            sizes = [scheme.size(name) for name in scheme.persons]
            self.assertEqual(sizes, [int(name in family.needed) for name in scheme.persons])
            self.assertTrue(fits(scheme, family), str(family))
            self.assertEqual(one_each(family=Family.read(str(family))), scheme)

    def assert_raises_with_paper(self, family):
        with self.assertRaises(NotSingle) as caught:
            one_each(family)
        paper, expected = caught.exception.value, paper_of(family)
        self.assertIs(type(paper), Paper)
        self.assertEqual((paper.pair, paper.chain, paper.parts), (expected.pair, expected.chain, expected.parts))
        return paper

    def test_by_trying_all_factors(self):
        for family in some_families()[::2]:
            if is_port(family):
                scheme = one_each(family)
                found = {group for group in subsets(family.persons) if group_opens(scheme, group)}
                self.assertEqual(found, opening(family))

    def test_one_person(self):
        scheme = one_each(Family(["zz"], [("zz",)]))
        self.assertEqual((scheme.prime, scheme.size("zz"), scheme.opens(("zz",))), (2, 1, True))


class Points45And49(unittest.TestCase):
    def test_just_the_ports_have_a_single_scheme(self):
        for family in some_families():
            self.assertIs(least_prime(family) is not None, is_port(family))

    def test_the_family_of_a_single_scheme_is_a_port(self):
        seen = 0
        for scheme in some_schemes():
            if is_single(scheme) and scheme.opens(scheme.persons):
                self.assertTrue(is_port(scheme.family()))
                seen += 1
        for prime in (7, 11):
            for many in range(1, 6):
                self.assertTrue(is_port(threshold_scheme(NAMES, many, prime).family()))
        self.assertGreater(seen, 10)

    def test_a_family_that_is_no_port_may_have_a_scheme_that_is_not_single(self):
        scheme = plain_scheme(ROW, 5)
        self.assertEqual((is_single(scheme), fits(scheme, ROW), least_prime(ROW)), (False, True, None))


class Point46(unittest.TestCase):
    def test_the_rank_of_the_rows_of_each_group(self):
        for family in some_families():
            if is_port(family):
                scheme = one_each(family)
                for group in subsets(family.persons):
                    self.assertEqual(port_rank(family, group), scheme.rank(group))

    def test_thresholds(self):
        for many in range(1, 6):
            family, scheme = Family.threshold(NAMES, many), threshold_scheme(NAMES, many, 11)
            for group in subsets(NAMES):
                self.assertEqual(port_rank(family, group), scheme.rank(group))


if __name__ == "__main__":
    unittest.main()
