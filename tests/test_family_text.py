"""Point 17: the text of a family, and reading it."""

import re
import unittest

from openshares.errors import BadText
from openshares.families import Family
from tests.checking import ShareTest
from tests.samples import NAMES, all_families, all_least_groups, some_families

WRONG = [
    "", " ", "\n", ":", ": ", "a", "a:", "a: ", "a b", " : a", ": a", "a:a", "a : a", "a:  a", "a: a ", " a: a",
    "a: a\n", "\na: a", "a:\na", "a\n: a", "a\nb: a", "a: a: a", "a: a /", "a: a / ", "a: / a", "a: a / a", "a b: a/b",
    "a b: a /b", "a b: a/ b", "a b: a  / b", "a b: a /  b", "a b: a // b", "a b: a / / b", "a  b: a", "b a: a",
    "b a: b a", "a a: a",
    "a b: b a", "a b: a a", "a b: b / a", "a b: a / b / a b", "a b: a b / a", "a b: a / a b", "a b: a / a / b",
    "a b: c", "a b: a c", "a b c: a b / a", "a b c: a c / a b", "a b c: a b / c", "a b c: a b / b c / a c",
    "a b c: b c / a", "A: A", "1: 1", "abcdefg: a", "a, b: a", "a b: a, b", "a b: (a)", "a b; a", "a b: a | b",
    "a b c d e f: a", "a b: a\n/ b", "a b: a /\nb", "a b: a\nb", "a b: a / b\n", "a b: a / b ", "a b: a / b /",
    "a b: a / b / ", "ab: a b", "a b: ab", "A b: b", "a B: a", "a b: A", "a b: a b b", "a b: a b c", "a b:  a",
]


class Point17Text(unittest.TestCase):
    def test_the_examples(self):
        family = Family(["c", "a", "b"], [("b", "c"), ("a", "b", "c"), ("a", "b")])
        self.assertEqual(str(family), "a b c: a b / b c")

    def test_ordinary_texts(self):
        for persons, groups, text in [
            (["a"], [("a",)], "a: a"),
            (["b", "a"], [("b",)], "a b: b"),
            (["b", "a"], [("b",), ("a",)], "a b: a / b"),
            (["bob", "ann", "eve12"], [("bob", "eve12"), ("ann",)], "ann bob eve12: ann / bob eve12"),
            (NAMES, [("a", "d", "e"), ("b", "c", "d"), ("a", "c")], "a b c d e: a c / a d e / b c d"),
            (["a2", "a10"], [("a2",), ("a10",)], "a10 a2: a10 / a2"),
        ]:
            self.assertEqual(str(Family(persons, groups)), text)

    def test_every_text(self):
        for groups in all_least_groups(NAMES[:4]):
            ordered = sorted(groups, key=lambda group: (len(group), group))
            text = "a b c d: " + " / ".join(" ".join(group) for group in ordered)
            self.assertEqual(str(Family(NAMES[:4], groups)), text)


class Point17Read(ShareTest):
    def test_every_family_is_read_from_its_text(self):
        for family in some_families():
            found = Family.read(str(family))
            self.assertIs(type(found), Family)
            self.assertEqual(found, family)

    def test_ordinary_texts(self):
        family = Family.read(text="ann bob eve12: ann / bob eve12")
        self.assertEqual(family.persons, ("ann", "bob", "eve12"))
        self.assertEqual(family.groups, (("ann",), ("bob", "eve12")))

    def test_other_texts(self):
        for text in WRONG:
            with self.subTest(text):
                self.assert_raises_with(BadText, "text", text, Family.read, text)

    def test_texts_that_differ_by_a_character(self):
        texts = [str(family) for many in (1, 2, 3) for family in all_families(NAMES[:many])]
        for wrong in sorted({wrong for text in texts for wrong in _neighbours(text)}):
            if _is_text(wrong):
                self.assertEqual(str(Family.read(wrong)), wrong)
            else:
                self.assert_raises_with(BadText, "text", wrong, Family.read, wrong)

    def test_more_than_five_persons(self):
        self.assertEqual(str(Family.read("a b c d e: a")), "a b c d e: a")
        for text in ("a b c d e f: a", "a b c d e f g: a b"):
            self.assert_raises_with(BadText, "text", text, Family.read, text)


def _neighbours(text):
    """The texts that come about when a character is taken out, put in, changed or swapped."""
    found = set()
    for at in range(len(text) + 1):
        for char in " abc:/\n1A-":
            found.add(text[:at] + char + text[at:])
            found.add(text[:at] + char + text[at + 1:])
        found.add(text[:at] + text[at + 1:])
        found.add(text[:at] + text[at + 1:at + 2] + text[at:at + 1] + text[at + 2:])
    return found


def _is_text(text):
    """Tell whether this is the text of a family, by its form and its order."""
    name = "[a-z][a-z0-9]{0,5}"
    group = f"{name}(?: {name})*"
    found = re.fullmatch(f"({group}): ({group}(?: / {group})*)", text)
    if found is None:
        return False
    persons = found[1].split(" ")
    groups = [part.split(" ") for part in found[2].split(" / ")]
    ascends = all(_ascends(names) for names in [persons, *groups]) and _ascends([(len(one), one) for one in groups])
    contained = [one for one in groups for other in groups if one != other and set(one) <= set(other)]
    return ascends and len(persons) <= 5 and contained == [] and all(set(one) <= set(persons) for one in groups)


def _ascends(items):
    return all(one < other for one, other in zip(items, items[1:]))


if __name__ == "__main__":
    unittest.main()
