"""Points 3, 5, 10, 15 and 16: the constructor, the properties, opens, threshold and equality."""

import unittest
from itertools import permutations

from openshares.errors import BadCount, BadGroup, BadName, DuplicateName, NoGroup
from openshares.families import Family
from tests.checking import ShareTest
from tests.samples import NAMES, NO_GROUPS, NO_GROUPS_OF_ABC, all_least_groups, least, some_families, subsets

ABC = ["a", "b", "c"]
SIX = ["a", "b", "c", "d", "e", "f"]


class Point15(ShareTest):
    def test_the_example_that_raises(self):
        self.assert_raises_with(BadGroup, "value", ("b", "a"), Family, ["a", "b"], [("b", "a")])

    def test_one_and_five_persons(self):
        self.assertEqual(Family(["a"], [("a",)]).persons, ("a",))
        self.assertEqual(Family(["e", "d", "c", "b", "a"], [("a",)]).persons, NAMES)

    def test_too_few_or_too_many_names(self):
        for names, count in [([], 0), ((), 0), (SIX, 6), (SIX + ["g"], 7), (["a"] * 6, 6), ([""] * 6, 6)]:
            self.assert_raises_with(BadCount, "count", count, Family, names, [("a",)])

    def test_the_count_comes_first(self):
        self.assert_raises_with(BadCount, "count", 0, Family, [], [])
        self.assert_raises_with(BadCount, "count", 6, Family, ["", "a", "a", "a", "a", "a"], [None])

    def test_bad_names(self):
        for name in ["", "A", "1a", "abcdefg", "a b", "a\n", " a", "a_", ":", "/"]:
            self.assert_raises_with(BadName, "name", name, Family, ["a", name], [("a",)])
            self.assert_raises_with(BadName, "name", name, Family, (name,), [])

    def test_duplicate_names(self):
        self.assert_raises_with(DuplicateName, "name", "a", Family, ["a", "a"], [("a",)])
        self.assert_raises_with(DuplicateName, "name", "b", Family, ["a", "b", "c", "b", "a"], [("a",)])
        self.assert_raises_with(DuplicateName, "name", "a", Family, ("c", "a", "b", "a", "b"), [])

    def test_names_are_checked_one_after_the_other(self):
        self.assert_raises_with(DuplicateName, "name", "a", Family, ["a", "a", "A"], [("a",)])
        self.assert_raises_with(BadName, "name", "A", Family, ["a", "A", "a"], [("a",)])
        self.assert_raises_with(BadName, "name", "A", Family, ["b", "A", "1"], [("a",)])
        # The first A is reached before the second one.
        self.assert_raises_with(BadName, "name", "A", Family, ["A", "A"], [("a",)])

    def test_names_come_before_groups(self):
        self.assert_raises_with(BadName, "name", "", Family, ["a", ""], [])
        self.assert_raises_with(DuplicateName, "name", "a", Family, ["a", "a"], [None])

    def test_no_group(self):
        for groups in ([], ()):
            self.assert_raises_bare(NoGroup, Family, ABC, groups)

    def test_the_empty_group(self):
        self.assert_raises_with(BadGroup, "value", (), Family, ABC, [()])
        self.assert_raises_with(BadGroup, "value", (), Family, ABC, [("a",), ()])

    def test_any_value_that_is_no_group(self):
        for value in NO_GROUPS_OF_ABC:
            for groups in ([value], [("a",), value], (value, ()), [("a", "b"), value, ("b", "a")]):
                held = self.assert_raises_with(BadGroup, "value", value, Family, ABC, groups)
                self.assertIs(held, value)

    def test_the_first_bad_group_counts(self):
        self.assert_raises_with(BadGroup, "value", (), Family, ABC, [("a",), (), None])
        self.assert_raises_with(BadGroup, "value", None, Family, ABC, [("a",), None, ()])
        self.assert_raises_with(BadGroup, "value", ["a"], Family, ABC, [["a"], ["b"]])

    def test_the_least_groups_are_kept(self):
        given = [("a", "b", "c"), ("b",), ("a", "b"), ("a", "c"), ("b",), ("b", "c")]
        self.assertEqual(Family(ABC, given).groups, (("b",), ("a", "c")))
        self.assertEqual(Family(ABC, subsets(ABC)[1:]).groups, (("a",), ("b",), ("c",)))
        self.assertEqual(Family(ABC, [("a", "b"), ("a", "b")]).groups, (("a", "b"),))

    def test_the_least_groups_of_any_groups(self):
        groups = subsets(ABC)[1:]
        for bits in range(1, 2**7):
            given = [group for at, group in enumerate(groups) if bits >> at & 1]
            self.assertEqual(Family(ABC, given).groups, least(given))
            self.assertEqual(Family(ABC, given[::-1] + given).groups, least(given))

    def test_the_arguments_by_their_names_and_as_tuples(self):
        expected = Family(["a", "b"], [("a",)])
        self.assertEqual(Family(groups=[("a",)], persons=["a", "b"]), expected)
        self.assertEqual(Family(("b", "a"), (("a",), ("a", "b"))), expected)

    def test_arguments_stay_and_are_copied(self):
        persons = ["c", "a", "b"]
        groups = [("b", "c"), ("a", "b", "c"), ("a", "b")]
        family = Family(persons, groups)
        self.assertEqual(persons, ["c", "a", "b"])
        self.assertEqual(groups, [("b", "c"), ("a", "b", "c"), ("a", "b")])
        persons.append("d")
        persons[0] = "x"
        groups.append(("a",))
        groups[0] = ("c",)
        self.assertEqual(str(family), "a b c: a b / b c")
        self.assertIs(family.opens(("a",)), False)

    def test_arguments_stay_after_an_error(self):
        persons, groups = ["b", "a"], [("a",), ["b", ["a"]]]
        self.assert_raises_with(BadGroup, "value", ["b", ["a"]], Family, persons, groups)
        self.assertEqual((persons, groups), (["b", "a"], [("a",), ["b", ["a"]]]))


class Point16Properties(ShareTest):
    def test_the_example(self):
        family = Family(["c", "a", "b"], [("b", "c"), ("a", "b", "c"), ("a", "b")])
        self.assertEqual(family.needed, ("a", "b", "c"))
        self.assertIs(family.opens(("a", "c")), False)

    def test_persons_ascend_as_strings_do(self):
        self.assertEqual(Family(["b", "a2", "a10", "a"], [("a",)]).persons, ("a", "a10", "a2", "b"))

    def test_groups_are_in_order(self):
        ordered = (("e",), ("a", "b"), ("a", "c"), ("a", "d"), ("b", "c", "d"))
        for groups in permutations(ordered):
            self.assertEqual(Family(NAMES, groups).groups, ordered)

    def test_persons_in_no_least_group(self):
        family = Family(NAMES, [("d",), ("b", "e"), ("a", "d")])
        self.assertEqual(family.needed, ("b", "d", "e"))
        self.assertEqual(Family(["b", "a"], [("b",)]).needed, ("b",))

    def test_every_family(self):
        for many in (1, 2, 3, 4):
            for groups in all_least_groups(NAMES[:many]):
                family = Family(NAMES[:many], groups)
                self.assertEqual(family.persons, NAMES[:many])
                self.assertEqual(family.groups, tuple(sorted(groups, key=_order)))
                self.assertEqual(family.needed, tuple(sorted({name for group in groups for name in group})))

    def test_kinds(self):
        family = Family(["a", "b"], [("b",)])
        for value in (family.persons, family.groups, family.groups[0], family.needed):
            self.assertIs(type(value), tuple)

    def test_a_family_does_not_change(self):
        family = Family(["a", "b"], [("b",)])
        for word in ("persons", "groups", "needed"):
            with self.assertRaises(AttributeError):
                setattr(family, word, ())


class Point16Opens(ShareTest):
    def test_every_family_and_group(self):
        for many in (1, 2, 3, 4):
            for groups in all_least_groups(NAMES[:many]):
                family = Family(NAMES[:many], groups)
                for group in subsets(NAMES[:many]):
                    expected = any(set(one) <= set(group) for one in groups)
                    self.assertIs(family.opens(group), expected)

    def test_the_empty_group_never_opens(self):
        self.assertIs(Family(["a"], [("a",)]).opens(()), False)
        self.assertIs(Family(["a"], [("a",)]).opens(group=("a",)), True)

    def test_any_value_that_is_no_group(self):
        family = Family(ABC, [("a",)])
        for value in NO_GROUPS_OF_ABC:
            held = self.assert_raises_with(BadGroup, "value", value, family.opens, value)
            self.assertIs(held, value)


class Point16Threshold(ShareTest):
    def test_the_example(self):
        self.assertEqual(str(Family.threshold(["x", "y", "z"], 2)), "x y z: x y / x z / y z")

    def test_every_number(self):
        for many in range(1, 6):
            persons = NAMES[:many]
            for least_many in range(1, many + 1):
                family = Family.threshold(persons[::-1], least_many)
                self.assertEqual(family.persons, persons)
                for group in subsets(persons):
                    self.assertIs(family.opens(group), len(group) >= least_many)

    def test_a_number_out_of_bounds(self):
        for persons in (["a"], ["b", "a", "c"], list(NAMES)):
            for many in (0, -1, len(persons) + 1, len(persons) + 2, 2**80, -(2**80)):
                self.assert_raises_with(BadCount, "count", many, Family.threshold, persons, many)

    def test_true_and_false_are_no_integers(self):
        for many in (True, False):
            held = self.assert_raises_with(BadCount, "count", many, Family.threshold, ["a", "b"], many)
            self.assertIs(held, many)

    def test_names_come_first(self):
        self.assert_raises_with(BadCount, "count", 6, Family.threshold, SIX, 0)
        self.assert_raises_with(BadCount, "count", 0, Family.threshold, [], 7)
        self.assert_raises_with(BadName, "name", "A", Family.threshold, ["a", "A"], 0)
        self.assert_raises_with(DuplicateName, "name", "a", Family.threshold, ("a", "a"), 3)

    def test_the_arguments(self):
        persons = ["b", "a"]
        self.assertEqual(str(Family.threshold(many=1, persons=persons)), "a b: a / b")
        self.assertEqual(persons, ["b", "a"])
        self.assertEqual(Family.threshold(("b", "a"), 1), Family.threshold(["a", "b"], 1))


class Point16Equality(unittest.TestCase):
    def test_equal_families(self):
        one = Family(["a", "b", "c"], [("a", "b"), ("b", "c")])
        other = Family(("c", "b", "a"), [("b", "c"), ("a", "b", "c"), ("a", "b")])
        self.assertTrue(one == other)
        self.assertFalse(one != other)

    def test_other_persons_or_groups(self):
        one = Family(["a", "b"], [("a",)])
        for other in (
            Family(["a"], [("a",)]), Family(["a", "b", "c"], [("a",)]), Family(["a", "c"], [("a",)]),
            Family(["a", "b"], [("b",)]), Family(["a", "b"], [("a", "b")]), Family(["a", "b"], [("a",), ("b",)]),
        ):
            self.assertFalse(one == other)
            self.assertTrue(one != other)

    def test_all_families_differ(self):
        families = some_families()[:186]
        for at, one in enumerate(families):
            for spot, other in enumerate(families):
                self.assertIs(one == other, at == spot)

    def test_other_kinds(self):
        family = Family(["a"], [("a",)])
        for value in [*NO_GROUPS, "a: a", ("a",), (("a",), (("a",),)), [("a",)], object(), Family]:
            self.assertFalse(family == value)
            self.assertFalse(value == family)
            self.assertTrue(family != value)


def _order(group):
    return len(group), group


if __name__ == "__main__":
    unittest.main()
