"""Points 9, 10, 17, 31, 34, 38, 40, 41 and 60 over the whole program."""

import unittest
from copy import deepcopy
from random import Random

from openshares.books import Book
from openshares.circuits import circuits, is_port, port_gap, port_rank, rounds
from openshares.dealing import added, agreeing, deal, fitting, open_shares, ways
from openshares.errors import BlindGroup, ShareError
from openshares.families import Family, all_groups, is_group, rest
from openshares.joining import both, either, left_out, published_scheme, put, put_scheme
from openshares.makers import lean_scheme, plain_scheme, threshold_scheme, turned_scheme
from openshares.naming import valid_name
from openshares.papers import Paper, check_paper, paper_of, ranks
from openshares.rows import blind_row, combined, factors_for, product, rank, solutions
from openshares.schemes import Scheme, check_blind, check_factors, fits
from openshares.single import is_single, least_prime, one_each
from openshares.verdicts import Verdict, check_verdict, judge
from tests.checking import ShareTest
from tests.reckoning import PRIMES, of_group
from tests.samples import NAMES, opening, some_families, subsets

ROW = "a b c d: a b / b c / c d"
TWO = "a b c: a b / a c / b c"
SCHEME = (3, 2, {"a": [(1, 1), (0, 1)], "b": [(1, 2)], "c": [(0, 1)]})


def schemes_of(family, prime):
    """The schemes that the program makes for a family, in several ways."""
    plain = plain_scheme(family, prime)
    found = [plain, lean_scheme(plain), turned_scheme(turned_scheme(plain))]
    found.append(turned_scheme(plain_scheme(family.turned(), prime)))
    found.append(lean_scheme(turned_scheme(plain_scheme(family.turned(), prime))))
    verdict = judge(family)
    if verdict.kind == "single":
        found += [verdict.paper, lean_scheme(verdict.paper)]
        found.append(turned_scheme(one_each(family.turned())))
    return found


class Point9(ShareTest):
    def test_a_text_is_read_judged_dealt_and_opened(self):
        random = Random(9)
        for at, text in enumerate([str(family) for family in some_families()[::4]]):
            family = Family.read(text)
            verdict = judge(family)
            self.assertTrue(check_verdict(family, verdict))
            self.assertEqual(verdict.kind == "single", is_port(family))
            for scheme in schemes_of(family, PRIMES[at % 5]):
                self.assertEqual(scheme.family(), family)
                if verdict.kind == "more":
                    self.assertGreaterEqual(scheme.rank(verdict.paper.pair), 3)
                    self.assertFalse(is_single(scheme))
                self.deal_and_open(scheme, opening(family), random)

    def deal_and_open(self, scheme, opens, random):
        secret = random.randrange(scheme.prime)
        given = deal(scheme, secret, [random.randrange(scheme.prime) for _ in range(scheme.width - 1)])
        for group in subsets(scheme.persons):
            shares = of_group(given, group)
            self.assertNotEqual(scheme.factors(group) is None, scheme.blind(group) is None)
            if group in opens:
                self.assertEqual(open_shares(scheme, shares), secret)
                self.assertTrue(check_factors(scheme, group, scheme.factors(group)))
            else:
                self.assert_raises_with(BlindGroup, "value", group, open_shares, scheme, shares)
                self.assertEqual(fitting(scheme, shares), list(range(scheme.prime)))
                self.assertTrue(check_blind(scheme, group, scheme.blind(group)))

    def test_exactly_one_of_a_single_scheme_and_a_paper(self):
        for family in some_families()[::3]:
            found = [self.outcome(one_each, family), self.outcome(paper_of, family)]
            self.assertEqual(found.count(None), 1)

    def outcome(self, call, family):
        try:
            return call(family)
        except ShareError:
            return None


def plain(value):
    """What a value tells, in a form that can be compared, with the kinds of lists, tuples and dicts."""
    if isinstance(value, (list, tuple)):
        return type(value).__name__, [plain(item) for item in value]
    if isinstance(value, dict):
        return "dict", {key: plain(item) for key, item in value.items()}
    if isinstance(value, Scheme):
        return value.prime, value.width, {name: value.rows(name) for name in value.persons}
    if isinstance(value, Paper):
        return plain([value.pair, value.chain, value.parts])
    if isinstance(value, Verdict):
        return plain([value.kind, value.paper])
    if isinstance(value, Book):
        return plain([value.history(), len(value)])
    if isinstance(value, Family):
        return str(value)
    return type(value).__name__, value


def some_calls():
    """Tuples of a function and its arguments, which are new each time."""
    row, two = Family.read(ROW), Family.read(TWO)
    scheme, other = Scheme(*SCHEME), Scheme(3, 2, {"a": [(1, 1)], "b": [(0, 1)], "c": []})
    paper = Paper(("b", "c"), [(), ("a",), ("a", "d")], [("b",), ("c",)])
    shares = {"b": (1,), "a": (2, 0)}
    lone = Scheme(3, 1, {"x": [(2,)]})
    return [
        (valid_name, ["a1"]), (Family, [["b", "a"], [("a", "b"), ("b",)]]), (all_groups, [("a", "b")]),
        (is_group, [("a", "b"), [["a"]]]), (rest, [("a", "b"), ("a",)]), (Family.threshold, [["c", "a", "b"], 2]),
        (Family.read, [ROW]), (row.opens, [("a", "b")]), (row.turned, []), (row.without, ["a"]), (row.published, ["b"]),
        (row.__or__, [row.turned()]), (row.__and__, [row.turned()]),
        (product, [3, (1, 2), (2, 2)]), (combined, [3, [1, 2], [(1, 2), (0, 1)]]), (rank, [3, [(1, 2), (2, 1)]]),
        (factors_for, [3, [(1, 2), (0, 1)], (1, 0)]), (blind_row, [3, [(1, 2)], 2]), (solutions, [3, [(1, 2)], [1], 2]),
        (Scheme, [3, 2, {"b": [(1, 1)], "a": [(0, 1), (0, 0)]}]), (scheme.rows, ["a"]), (scheme.size, ["a"]),
        (scheme.rank, [("a", "b")]), (scheme.opens, [("a",)]), (scheme.factors, [("a", "c")]), (scheme.blind, [("c",)]),
        (scheme.family, []), (scheme.restricted, [["c", "a", "c"]]),
        (check_factors, [scheme, ("a", "b"), {("b", 0): 2, ("a", 0): 2}]), (check_blind, [scheme, ("c",), (1, 0)]),
        (fits, [scheme, two]), (deal, [scheme, 2, [1]]), (added, [scheme, shares, {"a": (1, 1), "b": (2,)}]),
        (ways, [scheme, shares, 1]), (fitting, [scheme, shares]), (open_shares, [scheme, shares]),
        (agreeing, [scheme, shares]), (plain_scheme, [row, 5]), (threshold_scheme, [["c", "a", "b"], 2, 5]),
        (turned_scheme, [scheme]), (lean_scheme, [scheme]), (rounds, [row]), (circuits, [row]), (port_gap, [row]),
        (is_port, [row]), (port_rank, [row, ("a", "b", "d")]), (is_single, [scheme]), (least_prime, [two]),
        (one_each, [two]), (one_each, [row]), (Paper, [["b", "c"], [(), ["a"]], [{"b": ["c"]}]]),
        (check_paper, [row, paper]), (paper_of, [row]), (paper_of, [two]), (ranks, [plain_scheme(row, 2), paper]),
        (put, [row, "b", Family.read("b e: b / e")]), (put_scheme, [scheme, "a", lone]), (either, [scheme, other]),
        (both, [scheme, other]), (left_out, [scheme, "b"]), (published_scheme, [scheme, "c"]), (judge, [row]),
        (judge, [two]), (Verdict, [["more"], {"k": [["v"]]}]), (check_verdict, [row, Verdict("more", paper)]),
        (Book, [row]), (Book(row).tried, [[("turn",), ("drop", ("a", "c")), ("group", ("d",))]]), (Book(row).history, []),
        (Book(two).verdict, []), (Book(two).family, []),
    ]


def outcome(call, arguments):
    try:
        return plain(call(*arguments))
    except ShareError as error:
        return type(error).__name__, plain(vars(error))


class Point10(unittest.TestCase):
    def test_the_same_answer_whatever_was_asked_before(self):
        first = [outcome(call, arguments) for call, arguments in some_calls()]
        backwards = [outcome(call, arguments) for call, arguments in reversed(some_calls())]
        self.assertEqual(backwards[::-1], first)
        calls = some_calls()
        for _ in range(3):
            self.assertEqual([outcome(call, arguments) for call, arguments in calls], first)

    def test_the_arguments_stay(self):
        for call, arguments in some_calls():
            before = plain(arguments)
            outcome(call, arguments)
            self.assertEqual(plain(arguments), before, call)

    def test_lists_and_dicts_that_are_returned_are_new(self):
        checked = 0
        for call, arguments in some_calls():
            expected = outcome(call, arguments)
            try:
                found = call(*arguments)
            except ShareError:
                continue
            if isinstance(found, (list, dict)):
                found.clear()
                checked += 1
            self.assertEqual(outcome(call, arguments), expected, call)
        self.assertGreater(checked, 10)

    def test_tuples_for_lists(self):
        for call, arguments in some_calls():
            if call not in (Paper, Verdict, is_group):
                others = [tuple(item) if isinstance(item, list) else item for item in arguments]
                self.assertEqual(outcome(call, others), outcome(call, arguments), call)

    def test_the_order_of_keys_has_no_meaning(self):
        for call, arguments in some_calls():
            if call is not Verdict:
                turned = [
                    {key: item[key] for key in reversed(item)} if isinstance(item, dict) else item for item in arguments
                ]
                self.assertEqual(outcome(call, turned), outcome(call, arguments), call)

    def test_schemes_keep_nothing_that_they_were_given(self):
        rows = deepcopy(SCHEME[2])
        scheme = Scheme(3, 2, rows)
        rows["a"].append((2, 2))
        rows["d"] = []
        scheme.rows("b").clear()
        self.assertEqual(scheme, Scheme(*SCHEME))

    def test_all_objects_of_the_classes_differ_from_values_of_other_kinds(self):
        family, scheme = Family.read(ROW), Scheme(*SCHEME)
        objects = [family, scheme, paper_of(family), judge(family), Book(family)]
        for at, one in enumerate(objects):
            for spot, other in enumerate([*objects, None, 0, "", (), [], {}, ROW, NAMES]):
                self.assertIs(one == other, at == spot)
                self.assertIs(one != other, at != spot)


if __name__ == "__main__":
    unittest.main()
