"""Points 10 and 60 to 62: Verdict, judge and check_verdict."""

import unittest
from copy import deepcopy

from openshares.circuits import is_port
from openshares.families import Family
from openshares.makers import plain_scheme, threshold_scheme
from openshares.papers import Paper, paper_of
from openshares.schemes import Scheme
from openshares.single import one_each
from openshares.verdicts import Verdict, check_verdict, judge
from tests.ports import is_paper
from tests.samples import DEEP, NAMES, NO_GROUPS, opening, some_families, subsets

ROW = Family.read("a b c d: a b / b c / c d")
PAIR = Family.read("a b: a b")


def items(paper):
    return paper.pair, paper.chain, paper.parts


def is_single_scheme(family, scheme):
    persons = scheme.persons
    if persons != family.persons or any(scheme.size(name) > 1 for name in persons):
        return False
    return {group for group in subsets(persons) if scheme.opens(group)} == opening(family)


class Point60(unittest.TestCase):
    def test_the_examples(self):
        self.assertEqual([judge(ROW).kind, judge(PAIR).kind], ["more", "single"])
        self.assertIs(check_verdict(PAIR, Verdict("single", one_each(PAIR))), True)

    def test_every_family(self):
        for family in some_families():
            text = str(family)
            verdict = judge(family)
            self.assertIs(type(verdict), Verdict)
            if is_port(family):
                self.assertEqual(verdict.kind, "single")
                self.assertIs(type(verdict.paper), Scheme)
                self.assertTrue(is_single_scheme(family, verdict.paper))
            else:
                self.assertEqual(verdict.kind, "more")
                self.assertIs(type(verdict.paper), Paper)
                self.assertTrue(is_paper(family, *items(verdict.paper)))
            self.assertIs(check_verdict(family, verdict), True)
            self.assertEqual(str(family), text)

    def test_equal_families_have_equal_verdicts(self):
        for family in some_families()[::23]:
            one = judge(family)
            judge(ROW)
            other = judge(family=Family.read(str(family)))
            self.assertEqual(one.kind, other.kind)
            if one.kind == "single":
                self.assertEqual(one.paper, other.paper)
            else:
                self.assertEqual(items(one.paper), items(other.paper))

    def test_the_properties(self):
        scheme, paper = one_each(PAIR), paper_of(ROW)
        self.assertEqual((Verdict("single", scheme).kind, Verdict("single", scheme).paper), ("single", scheme))
        self.assertEqual(items(Verdict(paper=paper, kind="more").paper), items(paper))
        for word in ("kind", "paper"):
            with self.assertRaises(AttributeError):
                setattr(Verdict("single", scheme), word, None)

    def test_a_verdict_is_no_value_of_another_kind(self):
        verdict = judge(PAIR)
        for value in ["single", ("single", verdict.paper), verdict.paper, None, [], PAIR]:
            self.assertFalse(verdict == value)


class Point61(unittest.TestCase):
    def check(self, family, kind, paper):
        expected = kind == "single" and isinstance(paper, Scheme) and is_single_scheme(family, paper)
        if kind == "more" and isinstance(paper, Paper):
            expected = is_paper(family, *items(paper))
        self.assertIs(check_verdict(family, Verdict(kind, paper)), expected)
        self.assertIs(check_verdict(verdict=Verdict(kind, paper), family=family), expected)
        return expected

    def test_any_values(self):
        values = [*NO_GROUPS, DEEP, tuple(DEEP), "single", "more", ["single"], ("more",), ROW, PAIR]
        for family in (ROW, PAIR):
            right = judge(family)
            for value in values:
                self.assertFalse(self.check(family, right.kind, value))
                self.assertEqual(self.check(family, value, right.paper), value == right.kind)
                self.assertFalse(self.check(family, value, value))
                self.assertFalse(self.check(family, value, None))

    def test_the_kind_and_the_paper_belong_together(self):
        for family in (ROW, PAIR):
            for kind in ("single", "more", "Single", "MORE", "", "single ", "mor"):
                for paper in (one_each(PAIR), paper_of(ROW), plain_scheme(ROW, 2), plain_scheme(PAIR, 2)):
                    self.check(family, kind, paper)

    def test_schemes_of_other_families(self):
        families = some_families()[::31]
        schemes = [one_each(family) for family in families if is_port(family)]
        right = 0
        for family in families:
            for scheme in schemes:
                right += self.check(family, "single", scheme)
        self.assertEqual(right, len(schemes))

    def test_schemes_that_are_not_single(self):
        for text in ("a b c: a b / b c", "a b c: a b / a c / b c", "a b: a / b", "a b c d: a b / b c / c d"):
            family = Family.read(text)
            for prime in (2, 3, 11):
                self.check(family, "single", plain_scheme(family, prime))
        twice = Scheme(2, 2, {"a": [(0, 1), (0, 1)], "b": [(1, 1)]})
        self.assertFalse(self.check(PAIR, "single", twice))

    def test_single_schemes_over_other_primes_and_with_rows_for_nothing(self):
        for prime in (7, 11):
            self.assertTrue(self.check(Family.threshold(NAMES, 3), "single", threshold_scheme(NAMES, 3, prime)))
        scheme = Scheme(3, 2, {"a": [(1, 0)], "b": [(0, 2)]})
        self.assertTrue(self.check(Family.read("a b: a"), "single", scheme))
        self.assertFalse(self.check(Family.read("a b c: a"), "single", scheme))

    def test_a_scheme_with_one_number_changed(self):
        family = Family.threshold(["a", "b", "c"], 2)
        scheme = one_each(family)
        right = 0
        for name in scheme.persons:
            for at in range(scheme.width):
                for number in range(scheme.prime):
                    rows = {other: scheme.rows(other) for other in scheme.persons}
                    row = rows[name][0]
                    rows[name] = [row[:at] + (number,) + row[at + 1:]]
                    right += self.check(family, "single", Scheme(scheme.prime, scheme.width, rows))
            rows = {other: scheme.rows(other) for other in scheme.persons}
            for changed in ([], scheme.rows(name) * 2):
                self.assertFalse(self.check(family, "single", Scheme(scheme.prime, scheme.width, {**rows, name: changed})))
        self.assertLess(right, 3 * scheme.width * scheme.prime)

    def test_a_paper_with_one_item_changed(self):
        pair, chain, parts = items(paper_of(ROW))
        for other in subsets(ROW.persons):
            self.check(ROW, "more", Paper(other, chain, parts))
            for at in range(len(chain)):
                self.check(ROW, "more", Paper(pair, chain[:at] + (other,) + chain[at + 1:], parts))
            for at in range(len(parts)):
                self.check(ROW, "more", Paper(pair, chain, parts[:at] + (other,) + parts[at + 1:]))
        self.assertTrue(self.check(ROW, "more", Paper(pair, list(chain), list(parts))))

    def test_what_is_changed_later_has_no_effect(self):
        kind, paper = ["more", {"k": ["v"]}], {"a": [("b", ["c"])]}
        before = deepcopy((kind, paper))
        verdict = Verdict(kind, paper)
        kind[1]["k"].append("x")
        kind.append("x")
        paper["a"][0][1].append("x")
        paper["x"] = 1
        for _ in range(2):
            self.assertEqual((verdict.kind, verdict.paper), before)
            verdict.kind[1]["k"].append("x")
            verdict.kind.clear()
            verdict.paper["a"][0][1].append("x")
            verdict.paper.clear()

    def test_any_values_are_kept(self):
        for value in [*NO_GROUPS, DEEP, tuple(DEEP)]:
            verdict = Verdict(value, value)
            self.assertEqual((verdict.kind, verdict.paper), (value, value))
            self.assertEqual((type(verdict.kind), type(verdict.paper)), (type(value), type(value)))

    def test_the_verdict_stays(self):
        verdict = Verdict(["single"], {"a": [1]})
        check_verdict(PAIR, verdict)
        self.assertEqual((verdict.kind, verdict.paper), (["single"], {"a": [1]}))


class Point62(unittest.TestCase):
    def test_a_family_and_its_turned_one(self):
        for family in some_families()[::2]:
            self.assertEqual(judge(family.turned()).kind, judge(family).kind)


if __name__ == "__main__":
    unittest.main()
