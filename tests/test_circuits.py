"""Points 10 and 42 to 46: rounds, circuits, port_gap, is_port and port_rank."""

import unittest

from openshares.circuits import circuits, is_port, port_gap, port_rank, rounds
from openshares.errors import BadGroup
from openshares.families import Family
from tests.checking import ShareTest
from tests.ports import circuits_of, gaps_of, rank_of, rounds_of
from tests.samples import NAMES, NO_GROUPS_OF_ABC, some_families, subsets

TWO = Family.threshold(["a", "b", "c"], 2)
ROW = Family.read("a b c d: a b / b c / c d")
# A round lies in a least group.
INSIDE = Family.read("a b c d: a d / b d / a b c")


class Point42(unittest.TestCase):
    def test_the_examples(self):
        self.assertEqual(rounds(TWO), [("a", "b", "c")])
        self.assertEqual(rounds(ROW), [("a", "c"), ("b", "d")])

    def test_every_family(self):
        for family in some_families():
            text = str(family)
            found = rounds(family)
            self.assertIs(type(found), list)
            self.assertEqual(found, rounds_of(family))
            for group in found:
                self.assertIs(type(group), tuple)
                self.assertNotEqual(group, ())
            self.assertEqual(str(family), text)

    def test_one_least_group_has_no_round(self):
        for text in ("a: a", "a b: b", "a b c: a b c", "a b c d e: b d"):
            self.assertEqual(rounds(Family.read(text)), [])

    def test_all_least_groups_within_both_count(self):
        # a is in both least groups; but if b c d is a third one, nobody is in all that lie in the two.
        self.assertEqual(rounds(Family.read("a b c d: a d / a b c")), [("b", "c", "d")])
        self.assertEqual(rounds(Family.read("a b c d: a d / a b c / b c d")), [("a", "b", "c", "d")])

    def test_a_round_that_contains_another_one_is_left_out(self):
        # a b d without d; all other pairs have all four persons together, and nobody is in all three.
        self.assertEqual(rounds(INSIDE), [("a", "b")])

    def test_the_caller_may_change_the_list(self):
        for call in (rounds, circuits):
            expected = call(ROW)
            call(ROW).append(())
            call(family=ROW).clear()
            self.assertEqual(call(ROW), expected)


class Point43(unittest.TestCase):
    def test_the_example(self):
        self.assertEqual(circuits(TWO)[0], ("", "a", "b"))
        self.assertEqual(circuits(TWO), [("", "a", "b"), ("", "a", "c"), ("", "b", "c"), ("a", "b", "c")])

    def test_every_family(self):
        for family in some_families():
            found = circuits(family)
            self.assertIs(type(found), list)
            self.assertEqual({type(circuit) for circuit in found}, {tuple})
            self.assertEqual(found, circuits_of(family))

    def test_least_groups_come_before_shorter_rounds(self):
        self.assertEqual(circuits(INSIDE), [("", "a", "d"), ("", "b", "d"), ("", "a", "b", "c"), ("a", "b")])


class Point44(unittest.TestCase):
    def test_the_examples(self):
        self.assertIs(is_port(TWO), True)
        self.assertIs(is_port(ROW), False)
        self.assertEqual(port_gap(ROW), (("", "a", "b"), ("b", "d"), "b"))

    def test_every_family(self):
        kinds = set()
        for family in some_families():
            gaps = gaps_of(family)
            found = port_gap(family)
            if gaps == []:
                self.assertIsNone(found)
                self.assertIs(is_port(family), True)
            else:
                self.assertIs(type(found), tuple)
                self.assertEqual(found, gaps[0])
                self.assertIs(is_port(family=family), False)
                kinds.add(found[2] is None)
            self.assertEqual(port_gap(family=family), found)
        self.assertEqual(kinds, {True, False})

    def test_a_circuit_in_another_one_comes_first(self):
        self.assertEqual(port_gap(INSIDE), (("a", "b"), ("", "a", "b", "c"), None))

    def test_the_first_circuit_in_another_one(self):
        seen = 0
        for family in some_families():
            gaps = gaps_of(family)
            if len(gaps) > 1 and gaps[0][2] is None:
                seen += 1
                self.assertEqual(port_gap(family), min(gaps, key=lambda gap: [
                    circuits_of(family).index(gap[0]), circuits_of(family).index(gap[1]),
                ]))
        self.assertGreater(seen, 20)

    def test_ordinary_ports(self):
        for text in (
            "a: a", "a b: a", "a b: a b", "a b: a / b", "a b c: a b / a c", "a b c d: a b / a d / b c / c d",
            "a b c d: a b / a c d", "a b c d e: a b c d e", "a b c d: a b / c d", "a b c d: a b / a c / b d / c d",
        ):
            self.assertIs(is_port(Family.read(text)), True, text)
        for many in range(1, 6):
            self.assertIs(is_port(Family.threshold(NAMES, many)), True)

    def test_families_that_are_no_ports(self):
        for text in ("a b c d: a b / b c / c d", "a b c d: a d / b d / a b c",
                     "a b c d e: a b / a e / b c / c d / d e"):
            self.assertIs(is_port(Family.read(text)), False, text)


class Point45(unittest.TestCase):
    def test_the_turned_family_of_a_port_is_a_port(self):
        for family in some_families():
            self.assertIs(is_port(family.turned()), is_port(family))


class Point46(ShareTest):
    def test_the_example(self):
        self.assertEqual(port_rank(TWO, ("a", "b", "c")), 2)

    def test_every_family_and_group(self):
        for family in some_families():
            for group in subsets(family.persons):
                found = port_rank(family, group)
                self.assertIs(type(found), int)
                self.assertEqual(found, rank_of(family, group))

    def test_persons_who_are_not_needed(self):
        family = Family.read("a b c d: a b")
        self.assertEqual(port_rank(family, ("c", "d")), 0)
        self.assertEqual(port_rank(group=("a", "b", "c", "d"), family=family), 2)
        self.assertEqual(port_rank(family, ()), 0)

    def test_the_dealer_is_in_no_group(self):
        # All three open together, but the dealer is not among them: so they have no circuit.
        self.assertEqual(port_rank(Family.read("a b c: a b c"), ("a", "b", "c")), 3)
        self.assertEqual(port_rank(Family.read("a b c: a / b / c"), ("a", "b", "c")), 1)

    def test_any_value_that_is_no_group(self):
        for value in [*NO_GROUPS_OF_ABC, ("",), ("", "a"), ("", "a", "b")]:
            held = self.assert_raises_with(BadGroup, "value", value, port_rank, TWO, value)
            self.assertIs(held, value)


if __name__ == "__main__":
    unittest.main()
