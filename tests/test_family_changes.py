"""Points 18 to 20: turned, without, published, | and &."""

import unittest

from openshares.errors import BadCount, BadGroup, NoGroup, UnknownName, UnlikePersons
from openshares.families import Family
from tests.checking import ShareTest
from tests.samples import NAMES, all_families, least, opening, some_families, subsets


def read(text):
    return Family.read(text)


class Point18(unittest.TestCase):
    def test_the_example(self):
        self.assertEqual(str(read("a b c: a b / b c").turned()), "a b c: b / a c")

    def test_ordinary_families(self):
        for text, turned in [
            ("a: a", "a: a"), ("a b: a", "a b: a"), ("a b: a b", "a b: a / b"), ("a b: a / b", "a b: a b"),
            ("a b c: a b / a c / b c", "a b c: a b / a c / b c"),
            ("a b c d: a b / b c / c d", "a b c d: a c / b c / b d"),
        ]:
            self.assertEqual(str(read(text).turned()), turned)

    def test_the_groups_whose_rest_does_not_open(self):
        for family in some_families():
            turned = family.turned()
            self.assertEqual(turned.persons, family.persons)
            opens = opening(family)
            expected = {
                group for group in subsets(family.persons)
                if tuple(sorted(set(family.persons) - set(group))) not in opens
            }
            self.assertEqual(opening(turned), expected)

    def test_twice_turned(self):
        for family in some_families():
            text = str(family)
            self.assertEqual(family.turned().turned(), family)
            self.assertEqual(str(family), text)


class Point19Without(ShareTest):
    def test_the_example(self):
        self.assertEqual(str(read("a b c: a b / b c").without("a")), "b c: b c")

    def test_every_family_and_person(self):
        for family in some_families():
            for name in family.persons:
                others = tuple(other for other in family.persons if other != name)
                expected = {group for group in opening(family) if name not in group}
                if others == ():
                    self.assert_raises_with(BadCount, "count", 0, family.without, name)
                elif not expected:
                    self.assert_raises_bare(NoGroup, family.without, name)
                else:
                    found = family.without(name=name)
                    self.assertEqual(found.persons, others)
                    self.assertEqual(found.groups, least(expected))

    def test_the_order_of_the_errors(self):
        for family in (read("a: a"), read("a b: a"), read("a b: a b")):
            for name in ("c", "", "A", "aa", " ", "a b", "a\n"):
                self.assert_raises_with(UnknownName, "name", name, family.without, name)
        self.assert_raises_with(BadCount, "count", 0, read("a: a").without, "a")
        self.assert_raises_bare(NoGroup, read("a b: a").without, "a")
        self.assert_raises_bare(NoGroup, read("a b c: a b / a c").without, "a")

    def test_a_person_who_is_not_needed(self):
        self.assertEqual(str(read("a b: a").without("b")), "a: a")
        self.assertEqual(str(read("a ab b: ab").without("a")), "ab b: ab")


class Point19Published(ShareTest):
    def test_the_example(self):
        self.assertEqual(str(read("a b c: a b / b c").published("b")), "a c: a / c")

    def test_every_family_and_person(self):
        for family in some_families():
            for name in family.persons:
                if (name,) in opening(family):
                    self.assert_raises_with(BadGroup, "value", (name,), family.published, name)
                else:
                    others = tuple(other for other in family.persons if other != name)
                    found = family.published(name=name)
                    self.assertEqual(found.persons, others)
                    expected = {
                        group for group in subsets(others) if tuple(sorted(group + (name,))) in opening(family)
                    }
                    self.assertEqual(found.groups, least(expected))

    def test_errors(self):
        for family in (read("a: a"), read("a b: a b")):
            for name in ("c", "", "A", "aa"):
                self.assert_raises_with(UnknownName, "name", name, family.published, name)
        self.assert_raises_with(BadGroup, "value", ("a",), read("a: a").published, "a")
        self.assert_raises_with(BadGroup, "value", ("b",), read("a b c: b / a c").published, "b")

    def test_a_person_who_is_not_needed(self):
        self.assertEqual(str(read("a b: a").published("b")), "a: a")

    def test_a_least_group_that_comes_to_contain_another_one(self):
        self.assertEqual(str(read("a b c d: a b / a c / b c d").published("b")), "a c d: a / c d")


class Point20(ShareTest):
    def test_the_example(self):
        family = Family(["c", "a", "b"], [("b", "c"), ("a", "b", "c"), ("a", "b")])
        self.assertEqual(str(family & Family.read("a b c: a / b")), "a b c: a b / b c")

    def test_ordinary_families(self):
        one, other = read("a b c: a b / b c"), read("a b c: a / b c")
        self.assertEqual(str(one | other), "a b c: a / b c")
        self.assertEqual(str(one & other), "a b c: a b / b c")
        self.assertEqual(str(read("a b: a") | read("a b: b")), "a b: a / b")
        self.assertEqual(str(read("a b: a") & read("a b: b")), "a b: a b")

    def test_all_pairs(self):
        for one, other in _pairs():
            self.assertEqual((one | other).persons, one.persons)
            self.assertEqual((one & other).persons, one.persons)
            self.assertEqual((one | other).groups, least(opening(one) | opening(other)))
            self.assertEqual((one & other).groups, least(opening(one) & opening(other)))

    def test_turning_exchanges_them(self):
        for one, other in _pairs():
            self.assertEqual((one | other).turned(), one.turned() & other.turned())
            self.assertEqual((one & other).turned(), one.turned() | other.turned())

    def test_the_families_stay(self):
        for one, other in _pairs()[::50]:
            texts = (str(one), str(other))
            self.assertIs(type(one | other), Family)
            self.assertIs(type(one & other), Family)
            self.assertEqual((str(one), str(other)), texts)

    def test_other_persons(self):
        one = read("a b: a")
        for text in ("a: a", "a b c: a", "a c: a", "b c: b", "c d e: c"):
            other = read(text)
            self.assert_raises_with(UnlikePersons, "names", other.persons, lambda: one | other)
            self.assert_raises_with(UnlikePersons, "names", other.persons, lambda: one & other)
            self.assert_raises_with(UnlikePersons, "names", one.persons, lambda: other | one)
            self.assert_raises_with(UnlikePersons, "names", one.persons, lambda: other & one)


def _pairs():
    """All pairs of families of up to 3 persons, and many of 4 and 5."""
    found = []
    for many, step in ((1, 1), (2, 1), (3, 1), (4, 5), (5, 251)):
        families = all_families(NAMES[:many])[::step]
        found += [(one, other) for one in families for other in families]
    return found


if __name__ == "__main__":
    unittest.main()
