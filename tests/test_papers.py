"""Points 10 and 50 to 54: Paper, check_paper, paper_of and ranks."""

import unittest
from copy import deepcopy
from itertools import combinations

from openshares.circuits import is_port
from openshares.errors import BadGroup, IsSingle
from openshares.families import Family
from openshares.makers import lean_scheme, plain_scheme, turned_scheme
from openshares.papers import Paper, check_paper, paper_of, ranks
from openshares.schemes import Scheme
from tests.checking import ShareTest
from tests.ports import is_paper, stepped, union
from tests.reckoning import PRIMES, group_rows, most_independent, random_scheme, some_schemes
from tests.samples import DEEP, NAMES, NO_GROUPS, some_families, subsets

ROW = Family.read("a b c d: a b / b c / c d")
PAPER = Paper(("b", "c"), [(), ("a",), ("a", "d")], [("b",), ("c",)])
LONG = Family.read("a b c d e: a e / b d / a b c")


def items(paper):
    return paper.pair, list(paper.chain), list(paper.parts)


def no_ports():
    return [family for family in some_families() if not is_port(family)]


def longer_papers(family, paper):
    """The papers of the family that have one step more at the end, or a first group less."""
    pair, chain, parts = items(paper)
    found = [Paper(pair, chain[1:], parts[1:])] if parts else []
    for group in subsets(family.persons):
        for part in subsets(pair):
            found.append(Paper(pair, chain + [group], parts + [part]))
    return found


class Point50(unittest.TestCase):
    def test_the_properties(self):
        self.assertEqual(PAPER.pair, ("b", "c"))
        self.assertEqual(PAPER.chain, ((), ("a",), ("a", "d")))
        self.assertEqual(PAPER.parts, (("b",), ("c",)))
        paper = Paper(parts=(("b",),), chain=((), ("a",)), pair=("b", "c"))
        self.assertEqual((paper.chain, paper.parts), (((), ("a",)), (("b",),)))
        self.assertEqual((type(PAPER.chain), type(PAPER.parts)), (tuple, tuple))

    def test_any_values(self):
        for value in [*NO_GROUPS, DEEP, tuple(DEEP)]:
            paper = Paper(value, [value, value], (value,))
            self.assertEqual((paper.pair, paper.chain, paper.parts), (value, (value, value), (value,)))
            self.assertEqual(type(paper.pair), type(value))
            self.assertEqual([type(item) for item in paper.chain], [type(value)] * 2)

    def test_what_is_changed_later_has_no_effect(self):
        pair, chain, parts = ["b", ["c"]], [(), [["a"], {"k": ["v"]}], (["d"], {"a": {"b": []}})], [["b"], {"c": [1]}]
        before = deepcopy((pair, tuple(chain), tuple(parts)))
        paper = Paper(pair, chain, parts)
        pair[1].append("x")
        chain[1][1]["k"].append("x")
        chain[2][1]["a"]["b"].append("x")
        chain[2][0].append("x")
        chain.append("x")
        parts[1]["c"].append("x")
        parts[0][0] = "x"
        self.assertEqual((paper.pair, paper.chain, paper.parts), before)

    def test_what_is_told_may_be_changed(self):
        paper = Paper(["b", {"c": [0]}], [[["a"]], ({"k": []},)], [{"b": ["b"]}])
        for _ in range(2):
            self.assertEqual(paper.pair, ["b", {"c": [0]}])
            self.assertEqual(paper.chain, ([["a"]], ({"k": []},)))
            self.assertEqual(paper.parts, ({"b": ["b"]},))
            paper.pair[1]["c"].append(1)
            paper.pair.append("x")
            paper.chain[0][0].append("x")
            paper.chain[1][0]["k"].append("x")
            paper.parts[0]["b"].clear()
            paper.parts[0]["x"] = 1

    def test_a_paper_does_not_change(self):
        for word in ("pair", "chain", "parts"):
            with self.assertRaises(AttributeError):
                setattr(PAPER, word, ())

    def test_a_paper_is_no_value_of_another_kind(self):
        for value in [("b", "c"), (("b", "c"), PAPER.chain, PAPER.parts), None, "", [], ROW]:
            self.assertFalse(PAPER == value)


class Points50And51(unittest.TestCase):
    def check(self, family, pair, chain, parts):
        expected = is_paper(family, pair, chain, parts)
        for first, second in ((chain, parts), (tuple(chain), tuple(parts))):
            self.assertIs(check_paper(family, Paper(pair, first, second)), expected, (str(family), pair, chain, parts))
        return expected

    def test_the_examples(self):
        self.assertIs(check_paper(ROW, PAPER), True)
        self.assertIs(check_paper(paper=Paper(("b", "c"), [(), ("a",)], [("b",)]), family=ROW), False)

    def test_every_pair_chain_and_parts_of_a_family(self):
        groups = subsets("abcd")
        right = 0
        for pair in [*combinations("abcd", 2), ("b",), ("b", "c", "d")]:
            for first in groups:
                for second in groups:
                    if set(first) <= set(second):
                        for last in groups[::1 if pair == ("b", "c") else 3]:
                            parts = [(pair[0],), (pair[-1],)]
                            for chosen in (parts, parts[::-1], [pair, pair], [parts[0], pair]):
                                right += self.check(ROW, pair, [first, second, last], chosen)
        self.assertGreater(right, 1)

    def test_papers_with_a_single_part_changed(self):
        for family in no_ports()[::7] + [ROW, LONG]:
            pair, chain, parts = items(paper_of(family))
            self.assertTrue(self.check(family, pair, chain, parts))
            groups = subsets(family.persons)
            for other in [*groups, pair[::-1], list(pair), (pair[0], pair[0])]:
                self.check(family, other, chain, parts)
            for at in range(len(chain)):
                for other in [*groups, list(chain[at]), chain[at] + chain[at], chain[at][::-1]]:
                    self.check(family, pair, chain[:at] + [other] + chain[at + 1:], parts)
            for at in range(len(parts)):
                for other in [*groups, list(parts[at]), parts[at] + parts[at], pair[::-1]]:
                    self.check(family, pair, chain, parts[:at] + [other] + parts[at + 1:])

    def test_a_part_more_or_less(self):
        for family in no_ports()[::7] + [ROW, LONG]:
            pair, chain, parts = items(paper_of(family))
            for first, second in (
                (chain[1:], parts), (chain[:-1], parts), (chain, parts[1:]), (chain, parts[:-1]), ([], []),
                (chain, []), ([], parts), (chain[:1], []), (chain[:2], parts[:1]), (chain[1:], parts[1:]),
                (chain[:-1], parts[:-1]), (chain + chain[-1:], parts), (chain, parts + parts[-1:]),
                (chain + chain[-1:], parts + parts[-1:]), (chain[::-1], parts), (chain, parts[::-1]),
                (chain[:1] + chain, parts[:1] + parts),
            ):
                self.check(family, pair, first, second)

    def test_longer_papers(self):
        right = 0
        for family in no_ports()[::9] + [ROW, LONG]:
            for paper in longer_papers(family, paper_of(family)):
                right += self.check(family, *items(paper))
        self.assertGreater(right, 0)

    def test_any_values_in_their_places(self):
        for value in [*NO_GROUPS, DEEP, tuple(DEEP), ("e",), ("b", "e"), ("c", "b"), ("b", "c", "d"), "bc", ["b", "c"]]:
            pair, chain, parts = items(PAPER)
            for paper in (
                Paper(value, chain, parts), Paper(value, [], []), Paper(value, [value] * 3, [value] * 2),
                Paper(pair, [value] + chain[1:], parts), Paper(pair, chain[:1] + [value] + chain[2:], parts),
                Paper(pair, chain[:2] + [value], parts), Paper(pair, chain, [value, ("c",)]),
                Paper(pair, chain, [("b",), value]), Paper(pair, [value], []), Paper(pair, [value] * 3, parts),
                Paper(pair, chain, [value, value]), Paper(pair, chain + [value], parts + [value]),
            ):
                self.assertIs(check_paper(ROW, paper), False, repr(value))

    def test_at_least_three_parts(self):
        pair, chain, parts = ("a", "b"), [(), ("c",), ("c", "e"), ("c", "d", "e")], [("a", "b"), ("a",), ("b",)]
        self.assertTrue(self.check(LONG, pair, chain, parts))
        # a and b do not open alone, so two parts are too few.
        self.assertFalse(self.check(LONG, pair, chain[:3], parts[:2]))
        # Together with c they open, so two parts are enough, but one is not.
        self.assertTrue(self.check(LONG, pair, chain[1:], parts[1:]))
        self.assertFalse(self.check(LONG, pair, chain[1:3], parts[1:2]))
        self.assertFalse(self.check(LONG, pair, chain[2:], parts[2:]))

    def test_all_chains_whose_steps_are_right(self):
        counts = {True: set(), False: set()}
        for family in no_ports()[::40] + [ROW, LONG]:
            for pair in combinations(family.persons, 2):
                for chain, parts in stepped(family, pair, 3)[::3]:
                    counts[self.check(family, pair, chain, parts)].add(len(parts))
        self.assertEqual(counts, {True: {2, 3}, False: {0, 1, 2}})

    def test_papers_of_other_families(self):
        families = no_ports()[::11]
        for family in families:
            pair, chain, parts = items(paper_of(family))
            for other in families + [Family.threshold(["b", "c"], 1)]:
                self.check(other, pair, chain, parts)

    def test_the_arguments_stay(self):
        pair, chain, parts = ["b", "c"], [(), ["a"]], [["b"]]
        check_paper(ROW, Paper(pair, chain, parts))
        self.assertEqual((pair, chain, parts), (["b", "c"], [(), ["a"]], [["b"]]))


class Point53(ShareTest):
    def test_the_example(self):
        self.assertIs(check_paper(ROW, paper_of(ROW)), True)

    def test_every_family(self):
        for family in some_families():
            text = str(family)
            if is_port(family):
                self.assert_raises_bare(IsSingle, paper_of, family)
            else:
                paper = paper_of(family)
                self.assertIs(type(paper), Paper)
                self.assertTrue(is_paper(family, paper.pair, paper.chain, paper.parts), str(family))
            self.assertEqual(str(family), text)

    def test_equal_families_give_equal_papers(self):
        for family in no_ports()[::40]:
            expected = items(paper_of(family))
            paper_of(ROW)
            self.assertEqual(items(paper_of(family=Family.read(str(family)))), expected)

    def test_by_trying_all_papers(self):
        # A paper of more than three parts stays one without its last part, so three are enough.
        families = [family for family in some_families() if len(family.persons) < 5 or is_port(family)]
        for family in families[::4]:
            exists = any(
                is_paper(family, pair, chain, parts)
                for pair in combinations(family.persons, 2) for chain, parts in stepped(family, pair, 3)
            )
            self.assertIs(exists, not is_port(family), str(family))


def some_papers():
    """Tuples of a scheme and a paper of its family."""
    found = []
    for at, family in enumerate(no_ports()[::13]):
        scheme = plain_scheme(family, PRIMES[at % 5])
        found += [(scheme, paper_of(family)), (lean_scheme(scheme), paper_of(family))]
        found.append((turned_scheme(scheme), paper_of(family.turned())))
    schemes = some_schemes()
    for seed in range(60):
        schemes.append(random_scheme(seed, PRIMES[seed % 5], 3 + seed % 4, [1 + (seed + at) % 3 for at in range(5)]))
    schemes += [random_scheme(seed, 3, 40, [16, 9, 16, 14, 12]) for seed in range(3)]
    for scheme in schemes:
        if scheme.opens(scheme.persons) and not is_port(scheme.family()):
            found.append((scheme, paper_of(scheme.family())))
    return found


class Points52And54(ShareTest):
    def test_the_example(self):
        self.assertEqual(ranks(plain_scheme(ROW, 2), PAPER), [3, 2, 1])

    def test_each_step_falls(self):
        papers = some_papers()
        self.assertGreater(len(papers), 80)
        for scheme, paper in papers:
            found = ranks(scheme, paper)
            self.assertIs(type(found), list)
            self.assertEqual(len(found), len(paper.chain))
            for before, after in zip(found, found[1:]):
                self.assertLessEqual(after, before - 1)
            opens = scheme.opens(union(paper.pair, paper.chain[0]))
            self.assertGreaterEqual(scheme.rank(paper.pair), found[0] + opens)
            self.assertGreaterEqual(scheme.rank(paper.pair), 3)
            self.assertEqual(ranks(paper=paper, scheme=scheme), found)

    def test_the_numbers_by_their_words(self):
        for scheme in some_schemes()[::2]:
            persons = scheme.persons
            for pair in [pair for pair in subsets(persons) if len(pair) == 2]:
                chain = subsets(persons)[::3]
                found = ranks(scheme, Paper(pair, chain, []))
                for group, number in zip(chain, found):
                    self.assertEqual(number, self.spanned(scheme, group + pair) - self.spanned(scheme, group))

    def spanned(self, scheme, names):
        rows = group_rows(scheme, sorted(set(names))) + [(1,) + (0,) * (scheme.width - 1)]
        return most_independent(scheme.prime, rows, scheme.width)

    def test_chains_that_are_of_no_paper(self):
        scheme = Scheme(3, 2, {"a": [(1, 1)], "b": [(1, 2)], "c": [(0, 1)]})
        self.assertEqual(ranks(scheme, Paper(("a", "b"), [(), ("a", "b"), ("c",), ()], [])), [1, 0, 0, 1])
        self.assertEqual(ranks(scheme, Paper((), [(), ("a",)], [None])), [0, 0])
        self.assertEqual(ranks(scheme, Paper(("a", "b", "c"), [], "")), [])
        self.assertEqual(ranks(scheme, Paper(("a",), [()], [("z",)])), [1])

    def test_any_value_that_is_no_group(self):
        scheme = plain_scheme(ROW, 2)
        for value in [*NO_GROUPS, ("e",), ("b", "e"), ("c", "b")]:
            for paper in (
                Paper(value, [(), ("a",)], []), Paper(value, [None, "a"], [value]), Paper(value, [], []),
                Paper(("b", "c"), [value], []), Paper(("b", "c"), [(), value, None], []),
                Paper(("b", "c"), [("a",), (), value], [None]),
            ):
                self.assert_raises_with(BadGroup, "value", value, ranks, scheme, paper)

    def test_the_pair_comes_first(self):
        scheme = plain_scheme(ROW, 2)
        self.assert_raises_with(BadGroup, "value", "b", ranks, scheme, Paper("b", [None, ["a"]], []))
        self.assert_raises_with(BadGroup, "value", ["a"], ranks, scheme, Paper(("b",), [(), ["a"], None], []))
        self.assert_raises_with(BadGroup, "value", None, ranks, scheme, Paper(("b",), [None, ["a"]], []))

    def test_returned_lists_are_new(self):
        scheme = plain_scheme(ROW, 2)
        ranks(scheme, PAPER).clear()
        self.assertEqual(ranks(scheme, PAPER), [3, 2, 1])

    def test_names_that_are_long(self):
        family = Family(NAMES[:2] + ("zz9",), [("a", "zz9"), ("b",)])
        self.assertEqual(ranks(plain_scheme(family, 5), Paper(("a", "zz9"), [(), ("b",)], [])), [1, 1])


if __name__ == "__main__":
    unittest.main()
