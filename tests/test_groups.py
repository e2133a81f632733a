"""Points 4 and 14: groups."""

import unittest

from openshares.families import all_groups, is_group, rest
from tests.samples import NAMES, NO_GROUPS, NO_GROUPS_OF_ABC, subsets


class Point14AllGroups(unittest.TestCase):
    def test_no_person(self):
        self.assertEqual(all_groups(()), [()])

    def test_three_persons_in_order(self):
        self.assertEqual(
            all_groups(("a", "b", "c")),
            [(), ("a",), ("b",), ("c",), ("a", "b"), ("a", "c"), ("b", "c"), ("a", "b", "c")],
        )

    def test_up_to_five_persons(self):
        for many in range(6):
            self.assertEqual(all_groups(NAMES[:many]), subsets(NAMES[:many]))
            self.assertEqual(len(all_groups(NAMES[:many])), 2**many)

    def test_names_are_ordered_as_strings(self):
        persons = ("a", "a1", "a10", "a2", "b")
        self.assertEqual(all_groups(persons), subsets(persons))

    def test_somewhat_more_persons(self):
        persons = NAMES + ("f",)
        self.assertEqual(all_groups(persons), subsets(persons))

    def test_kinds_and_a_new_list_each_time(self):
        found = all_groups(persons=("a", "b"))
        self.assertIs(type(found), list)
        self.assertEqual([type(group) for group in found], [tuple] * 4)
        found.clear()
        self.assertEqual(all_groups(("a", "b")), [(), ("a",), ("b",), ("a", "b")])

    def test_of_the_persons_of_a_list(self):
        persons = ["a", "b"]
        self.assertEqual(all_groups(persons), [(), ("a",), ("b",), ("a", "b")])
        self.assertEqual(persons, ["a", "b"])


class Point14IsGroup(unittest.TestCase):
    def test_each_group_is_one(self):
        for many in range(7):
            persons = (NAMES + ("f",))[:many]
            for group in subsets(persons):
                self.assertIs(is_group(persons, group), True)

    def test_any_other_value_is_none(self):
        for value in NO_GROUPS_OF_ABC:
            self.assertIs(is_group(("a", "b", "c"), value), False, repr(value))
        for value in [*NO_GROUPS, ("a",)]:
            self.assertIs(is_group((), value), False, repr(value))

    def test_no_tuple_of_persons_in_another_order_or_twice(self):
        persons = ("a", "b", "c")
        groups = subsets(persons)
        for one in persons:
            for two in persons:
                for three in persons:
                    value = (one, two, three)
                    self.assertIs(is_group(persons, value), value in groups, value)
                self.assertIs(is_group(persons, (one, two)), (one, two) in groups)

    def test_the_arguments_by_their_names(self):
        self.assertIs(is_group(value=("b",), persons=("a", "b")), True)
        self.assertIs(is_group(persons=("a", "b"), value=["b"]), False)

    def test_the_value_stays_as_it_was(self):
        value = [["a"], {"a": ["b"]}]
        is_group(("a", "b"), value)
        self.assertEqual(value, [["a"], {"a": ["b"]}])


class Point14Rest(unittest.TestCase):
    def test_the_others_in_order(self):
        self.assertEqual(rest(("a", "b", "c"), ("b",)), ("a", "c"))
        self.assertEqual(rest(("a", "b", "c"), ()), ("a", "b", "c"))
        self.assertEqual(rest(("a", "b", "c"), ("a", "b", "c")), ())
        self.assertEqual(rest((), ()), ())

    def test_every_group(self):
        for many in range(6):
            persons = NAMES[:many]
            for group in subsets(persons):
                found = rest(persons=persons, group=group)
                self.assertIs(type(found), tuple)
                self.assertEqual(found, tuple(sorted(set(persons) - set(group))))

    def test_a_name_that_lies_in_another_one(self):
        self.assertEqual(rest(("a", "ab", "b"), ("ab",)), ("a", "b"))


if __name__ == "__main__":
    unittest.main()
