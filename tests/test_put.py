"""Points 10 and 55: put."""

import unittest
from itertools import product

from openshares.errors import BadCount, DuplicateName, UnknownName
from openshares.families import Family
from openshares.joining import put
from tests.checking import ShareTest
from tests.samples import NAMES, NO_GROUPS, all_families, least, opening, put_opening, some_families, subsets

PAIR = Family(["a", "b"], [("a", "b")])


class Point55(ShareTest):
    def check(self, family, name, other):
        texts = str(family), str(other)
        found = put(family, name, other)
        self.assertIs(type(found), Family)
        persons = [own for own in family.persons if own != name] + list(other.persons)
        self.assertEqual(found.persons, tuple(sorted(persons)))
        expected = put_opening(family, name, other)
        self.assertEqual(opening(found), expected, (str(family), name, str(other)))
        self.assertEqual(found.groups, least(expected))
        self.assertEqual((str(family), str(other)), texts)
        return found

    def test_the_example(self):
        self.assertEqual(str(put(PAIR, "b", Family(["c", "d"], [("c",), ("d",)]))), "a c d: a c / a d")

    def test_families_of_up_to_three_persons(self):
        families = [family for many in (1, 2, 3) for family in all_families(NAMES[:many])]
        # The first has the replaced name anew, and the others stand before, between and behind.
        for family, new in product(families, [("b", "x", "y"), ("aa", "bb", "x"), ("a1", "b1", "c1")]):
            for name in family.persons:
                names = [other for other in new if other == name or other not in family.persons]
                for many in range(1, len(names) + 1):
                    for other in all_families(tuple(names[:many]))[::2]:
                        self.check(family, name, other)

    def test_greater_families(self):
        for at, family in enumerate(some_families()[::3]):
            for name in family.persons:
                room = 6 - len(family.persons)
                for many in range(1, room + 1):
                    choices = all_families(("x", "y", "z", "zz", "zzz")[:many])
                    self.check(family, name, choices[at % len(choices)])

    def test_one_person_for_another(self):
        self.assertEqual(str(put(PAIR, "a", Family(["c"], [("c",)]))), "b c: b c")
        self.assertEqual(str(put(Family(["a"], [("a",)]), "a", Family(NAMES, [("b", "e")]))), "a b c d e: b e")
        self.assertEqual(str(put(name="a", other=Family(["c"], [("c",)]), family=PAIR)), "b c: b c")

    def test_the_replaced_name_comes_back_as_a_new_person(self):
        self.assertEqual(str(put(PAIR, "b", Family(["b", "c"], [("b",), ("c",)]))), "a b c: a b / a c")
        self.assertEqual(str(put(PAIR, "b", Family(["b", "c"], [("c",)]))), "a b c: a c")
        self.assertEqual(str(put(PAIR, "b", Family(["b"], [("b",)]))), "a b: a b")
        family = Family(NAMES, [("a", "b"), ("c", "d", "e")])
        for name in NAMES:
            self.assertEqual(put(family, name, Family([name], [(name,)])), family)

    def test_persons_who_are_not_needed(self):
        family = Family(["a", "b"], [("a",)])
        self.assertEqual(str(put(family, "b", Family(["c", "d"], [("c", "d")]))), "a c d: a")
        self.assertEqual(str(put(family, "a", Family(["c", "d"], [("d",)]))), "b c d: d")

    def test_unknown_names(self):
        for name in ("c", "", "A", "aa", " "):
            for other in (PAIR, Family(["c"], [("c",)]), Family.threshold(NAMES, 1)):
                self.assert_raises_with(UnknownName, "name", name, put, PAIR, name, other)

    def test_duplicate_names(self):
        for names, first in [(["a"], "a"), (["c", "a"], "a"), (["a", "b"], "a"), (["b", "a", "c", "d", "e"], "a")]:
            other = Family(names, [(names[0],)])
            self.assert_raises_with(DuplicateName, "name", first, put, PAIR, "b", other)
        family = Family(["a", "c", "e"], [("e",)])
        self.assert_raises_with(DuplicateName, "name", "c", put, family, "a", Family(["e", "c", "b"], [("b",)]))
        self.assert_raises_with(DuplicateName, "name", "c", put, family, "a", Family(NAMES, [("b",)]))
        self.assert_raises_with(DuplicateName, "name", "a", put, family, "e", Family(NAMES, [("b",)]))

    def test_more_than_five_persons(self):
        for own, new, count in [(2, 5, 6), (5, 2, 6), (5, 5, 9), (4, 3, 6), (3, 4, 6), (4, 4, 7)]:
            family = Family(NAMES[:own], [("a",)])
            other = Family(["v", "w", "x", "y", "z"][:new], [("v",)])
            self.assert_raises_with(BadCount, "count", count, put, family, "a", other)
        for own, new in [(1, 5), (5, 1), (2, 4), (3, 3)]:
            found = put(Family(NAMES[:own], [("a",)]), "a", Family(["v", "w", "x", "y", "z"][:new], [("v",)]))
            self.assertEqual(len(found.persons), 5)

    def test_the_order_of_the_errors(self):
        five = Family(NAMES, [("a",)])
        self.assert_raises_with(UnknownName, "name", "x", put, five, "x", five)
        self.assert_raises_with(DuplicateName, "name", "b", put, five, "a", five)
        self.assert_raises_with(BadCount, "count", 6, put, five, "a", Family(["a", "x"], [("a",)]))

    def test_names_of_another_form(self):
        for name in [value for value in NO_GROUPS if isinstance(value, str) and value not in ("a", "b")]:
            self.assert_raises_with(UnknownName, "name", name, put, PAIR, name, PAIR)


if __name__ == "__main__":
    unittest.main()
