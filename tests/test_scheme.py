"""Points 2, 7, 10, 25, 26 and 30: the constructor, the properties, rows, size, rank, restricted and equality."""

import unittest
from copy import deepcopy
from itertools import permutations

from openshares.errors import BadCount, BadGroup, BadName, BadPrime, BadRow, UnknownName
from openshares.families import Family
from openshares.schemes import Scheme
from tests.checking import ShareTest
from tests.reckoning import NO_PRIMES, PRIMES, group_rows, no_rows, schemes_and_groups, some_schemes, sums
from tests.samples import NAMES, NO_GROUPS, NO_GROUPS_OF_ABC

ROWS = {"c": [(0, 1)], "a": [(1, 1)], "b": [(1, 2)]}
SIX = {name: [] for name in "fedcba"}
STRANGERS = ["d", "", "A", "aa", " ", "a b", "a\n", "anthony"]


class Point25(ShareTest):
    def test_any_value_that_is_no_prime(self):
        for value in NO_PRIMES:
            for width, rows in ((2, ROWS), (0, {}), (41, {"A": [None] * 17})):
                held = self.assert_raises_with(BadPrime, "number", value, Scheme, value, width, rows)
                self.assertIs(held, value)
        for prime in PRIMES:
            self.assertEqual(Scheme(prime, 2, {"a": [(1, prime - 1)]}).prime, prime)

    def test_widths_out_of_bounds(self):
        for width in (0, -1, 41, 42, 2**80, -(2**80)):
            for rows in (ROWS, {}, SIX, {"A": []}, {"a": [(1,) * 41]}):
                self.assert_raises_with(BadCount, "count", width, Scheme, 3, width, rows)

    def test_width_1_and_40(self):
        self.assertEqual(Scheme(3, 1, {"a": [(2,)]}).rows("a"), [(2,)])
        self.assertEqual(Scheme(3, 40, {"a": [(2,) * 40]}).rows("a"), [(2,) * 40])

    def test_the_number_of_persons(self):
        self.assert_raises_with(BadCount, "count", 0, Scheme, 3, 2, {})
        self.assert_raises_with(BadCount, "count", 6, Scheme, 3, 2, SIX)
        self.assert_raises_with(BadCount, "count", 7, Scheme, 3, 2, {**SIX, "A": [None]})
        for many in (1, 5):
            self.assertEqual(Scheme(3, 2, {name: [] for name in NAMES[:many]}).persons, NAMES[:many])

    def test_bad_names(self):
        for name in ["", "A", "1a", "abcdefg", "a b", "a\n", " a", "a_", "~", "1"]:
            self.assert_raises_with(BadName, "name", name, Scheme, 3, 2, {name: []})
            self.assert_raises_with(BadName, "name", name, Scheme, 3, 2, {"a": [None], name: [None] * 17})

    def test_names_are_checked_in_ascending_order(self):
        for names in permutations(["A", "B", "a", "a_"]):
            self.assert_raises_with(BadName, "name", "A", Scheme, 3, 2, {name: [None] for name in names})
        self.assert_raises_with(BadName, "name", "b_", Scheme, 3, 2, {"c_": [], "b_": [], "a": [None]})

    def test_the_number_of_rows(self):
        row = (0, 1)
        for many in (0, 1, 15, 16):
            self.assertEqual(Scheme(3, 2, {"a": [row] * many, "b": []}).size("a"), many)
        for many in (17, 18, 100):
            self.assert_raises_with(BadCount, "count", many, Scheme, 3, 2, {"a": [row] * many, "b": []})
            self.assert_raises_with(BadCount, "count", many, Scheme, 3, 2, {"a": (None,) * many})

    def test_any_value_that_is_no_row(self):
        for prime in PRIMES:
            for width in (1, 2, 3):
                one = (1,) * width
                for value in no_rows(prime, width) + [(0,) * (width + 1), one + one]:
                    for rows in ([value], [one, value], (one, one, value, None)):
                        held = self.assert_raises_with(BadRow, "value", value, Scheme, prime, width, {"a": rows})
                        self.assertIs(held, value)

    def test_a_row_wider_or_narrower_than_the_width(self):
        for row in ((1,), (1, 1, 1), (1,) * 40):
            self.assert_raises_with(BadRow, "value", row, Scheme, 2, 2, {"a": [row, row]})

    def test_person_by_person(self):
        bad = [(0, 3)]
        many = [(0, 0)] * 17
        self.assert_raises_with(BadRow, "value", (0, 3), Scheme, 3, 2, {"b": many, "a": bad})
        self.assert_raises_with(BadCount, "count", 17, Scheme, 3, 2, {"b": bad, "a": many})
        self.assert_raises_with(BadRow, "value", None, Scheme, 3, 2, {"c": many, "a": [(0, 1)], "b": [(0, 1), None, ()]})
        self.assert_raises_with(BadName, "name", "c_", Scheme, 3, 2, {"c_": [], "a": many, "b": bad})

    def test_arguments_by_their_names_and_as_tuples(self):
        expected = Scheme(3, 2, {"a": [(1, 1)], "b": []})
        self.assertEqual(Scheme(rows={"b": (), "a": ((1, 1),)}, width=2, prime=3), expected)

    def test_arguments_stay_and_are_copied(self):
        rows = {"b": [(1, 2)], "a": [(1, 1), (0, 1)]}
        kept = deepcopy(rows)
        scheme = Scheme(3, 2, rows)
        scheme.family()
        scheme.factors(("a", "b"))
        self.assertEqual(rows, kept)
        self.assertEqual(list(rows), ["b", "a"])
        rows["a"].append((1, 0))
        rows["a"][0] = None
        rows["c"] = []
        del rows["b"]
        self.assertEqual(scheme.persons, ("a", "b"))
        self.assertEqual([scheme.rows("a"), scheme.rows("b")], [kept["a"], kept["b"]])

    def test_arguments_stay_after_an_error(self):
        rows = {"b": [(1, 2), [1, 2]], "a": [(1, 1)]}
        self.assert_raises_with(BadRow, "value", [1, 2], Scheme, 3, 2, rows)
        self.assertEqual(rows, {"b": [(1, 2), [1, 2]], "a": [(1, 1)]})


class Point26(ShareTest):
    def setUp(self):
        self.scheme = Scheme(3, 2, {"c": [(0, 1), (0, 1)], "a": [(1, 1), (0, 0), (2, 2)], "b": []})

    def test_the_properties(self):
        self.assertEqual((self.scheme.prime, self.scheme.width), (3, 2))
        self.assertEqual(self.scheme.persons, ("a", "b", "c"))
        self.assertIs(type(self.scheme.persons), tuple)
        self.assertEqual(Scheme(2, 1, {"b": [], "a10": [], "a2": [], "a": []}).persons, ("a", "a10", "a2", "b"))

    def test_a_scheme_does_not_change(self):
        for word in ("prime", "width", "persons"):
            with self.assertRaises(AttributeError):
                setattr(self.scheme, word, 2)

    def test_rows_and_size(self):
        self.assertEqual(self.scheme.rows("a"), [(1, 1), (0, 0), (2, 2)])
        self.assertEqual(self.scheme.rows("b"), [])
        self.assertEqual(self.scheme.rows(name="c"), [(0, 1), (0, 1)])
        self.assertEqual([self.scheme.size("a"), self.scheme.size("b"), self.scheme.size(name="c")], [3, 0, 2])
        self.assertIs(type(Scheme(3, 2, {"a": ((1, 1),)}).rows("a")), list)

    def test_rows_are_new(self):
        rows = self.scheme.rows("a")
        rows.append((1, 0))
        rows[0] = None
        self.assertEqual(self.scheme.rows("a"), [(1, 1), (0, 0), (2, 2)])

    def test_unknown_names(self):
        for name in STRANGERS:
            self.assert_raises_with(UnknownName, "name", name, self.scheme.rows, name)
            self.assert_raises_with(UnknownName, "name", name, self.scheme.size, name)

    def test_rank(self):
        self.assertEqual(Scheme(3, 2, ROWS).rank(("a", "b", "c")), 2)
        self.assertEqual(self.scheme.rank(group=("a",)), 1)
        self.assertEqual([self.scheme.rank(()), self.scheme.rank(("b",)), self.scheme.rank(("b", "c"))], [0, 0, 1])
        for scheme, group in schemes_and_groups():
            taken = []
            for row in group_rows(scheme, group):
                if row not in sums(scheme.prime, taken, scheme.width):
                    taken.append(row)
            self.assertEqual(scheme.rank(group), len(taken))

    def test_rank_of_no_group(self):
        for value in NO_GROUPS_OF_ABC:
            held = self.assert_raises_with(BadGroup, "value", value, self.scheme.rank, value)
            self.assertIs(held, value)

    def test_equal_schemes(self):
        for names in permutations(ROWS):
            other = Scheme(3, 2, {name: tuple(ROWS[name]) for name in names})
            self.assertTrue(Scheme(3, 2, ROWS) == other)
            self.assertFalse(Scheme(3, 2, ROWS) != other)

    def test_other_schemes(self):
        one = Scheme(3, 2, {"a": [(1, 1), (0, 1)], "b": []})
        for other in (
            Scheme(5, 2, {"a": [(1, 1), (0, 1)], "b": []}), Scheme(3, 2, {"a": [(0, 1), (1, 1)], "b": []}),
            Scheme(3, 2, {"a": [(1, 1)], "b": []}), Scheme(3, 2, {"a": [(1, 1), (0, 1)]}),
            Scheme(3, 2, {"a": [(1, 1), (0, 1)], "c": []}), Scheme(3, 2, {"a": [(1, 1)], "b": [(0, 1)]}),
            Scheme(3, 2, {"a": [(1, 1), (0, 2)], "b": []}), Scheme(3, 2, {"b": [(1, 1), (0, 1)], "a": []}),
            Scheme(3, 2, {"a": [(1, 1), (0, 1), (0, 1)], "b": []}),
        ):
            self.assertFalse(one == other)
            self.assertTrue(one != other)
        self.assertFalse(Scheme(3, 1, {"a": []}) == Scheme(3, 2, {"a": []}))
        self.assertFalse(Scheme(2, 2, {"a": []}) == Scheme(3, 2, {"a": []}))

    def test_all_schemes_differ(self):
        schemes = some_schemes()
        kinds = [(one.prime, one.width, [(name, one.rows(name)) for name in one.persons]) for one in schemes]
        for at, one in enumerate(schemes):
            for spot, other in enumerate(schemes):
                self.assertIs(one == other, kinds[at] == kinds[spot])

    def test_other_kinds(self):
        scheme = Scheme(3, 2, ROWS)
        family = Family(["a", "b", "c"], [("a", "b"), ("a", "c"), ("b", "c")])
        for value in [*NO_GROUPS, ROWS, (3, 2, ROWS), [3, 2, ROWS], 3, object(), Scheme, family]:
            self.assertIs(scheme == value, False)
            self.assertIs(value == scheme, False)
            self.assertIs(scheme != value, True)


class Point30(ShareTest):
    def setUp(self):
        self.scheme = Scheme(3, 2, ROWS)

    def test_ordinary_names(self):
        self.assertEqual(self.scheme.restricted(["a"]), Scheme(3, 2, {"a": [(1, 1)]}))
        self.assertEqual(self.scheme.restricted(["c", "a"]), Scheme(3, 2, {"a": [(1, 1)], "c": [(0, 1)]}))
        self.assertEqual(self.scheme.restricted(names=("b", "c")), Scheme(3, 2, {"b": [(1, 2)], "c": [(0, 1)]}))
        self.assertEqual(self.scheme.restricted(["c", "b", "a"]), self.scheme)
        self.assertIsInstance(self.scheme.restricted(["a"]), Scheme)

    def test_every_scheme_and_group(self):
        for scheme, group in schemes_and_groups():
            if group:
                found = scheme.restricted(list(group[::-1]))
                self.assertEqual((found.prime, found.width, found.persons), (scheme.prime, scheme.width, group))
                self.assertEqual([found.rows(name) for name in group], [scheme.rows(name) for name in group])

    def test_a_name_several_times(self):
        self.assertEqual(self.scheme.restricted(["c", "a", "c", "c"]), self.scheme.restricted(["a", "c"]))
        self.assertEqual(self.scheme.restricted(["b"] * 7).persons, ("b",))

    def test_no_name(self):
        for names in ([], ()):
            self.assert_raises_with(BadCount, "count", 0, self.scheme.restricted, names)

    def test_unknown_names(self):
        for name in STRANGERS:
            self.assert_raises_with(UnknownName, "name", name, self.scheme.restricted, [name])
            self.assert_raises_with(UnknownName, "name", name, self.scheme.restricted, ("a", name, "x"))
        self.assert_raises_with(UnknownName, "name", "z", self.scheme.restricted, ["b", "z", "d", "a"])
        self.assert_raises_with(UnknownName, "name", "f", self.scheme.restricted, ["f", "e", "d", "c", "b", "a"])

    def test_arguments_stay(self):
        names = ["c", "a", "c"]
        found = self.scheme.restricted(names)
        self.assertEqual(names, ["c", "a", "c"])
        names.append("b")
        self.assertEqual(found.persons, ("a", "c"))
        self.assertEqual(self.scheme, Scheme(3, 2, ROWS))


if __name__ == "__main__":
    unittest.main()
