"""Points 10 and 56 to 59: put_scheme, either, both, left_out and published_scheme."""

import unittest
from random import Random

from openshares.circuits import is_port
from openshares.dealing import deal
from openshares.errors import BadCount, BadGroup, DuplicateName, UnknownName, UnlikePersons, UnlikePrimes
from openshares.families import Family
from openshares.joining import both, either, left_out, published_scheme, put, put_scheme
from openshares.makers import plain_scheme, threshold_scheme
from openshares.schemes import Scheme
from openshares.single import is_single, one_each
from tests.checking import ShareTest
from tests.ports import union
from tests.reckoning import PRIMES, edge_schemes, random_scheme, some_schemes
from tests.samples import NAMES, all_families, subsets

TWO = Scheme(2, 2, {"a": [(1, 1)], "b": [(0, 1)]})


def renamed(scheme, names):
    return Scheme(scheme.prime, scheme.width, {
        name: scheme.rows(old) for old, name in zip(scheme.persons, names)
    })


def rows_of(scheme):
    return {name: scheme.rows(name) for name in scheme.persons}


def schemes_over(prime):
    """A few schemes over this prime: such as open for some, and such as do not."""
    found = [scheme for scheme in edge_schemes() + some_schemes()[12::3] if scheme.prime == prime]
    for seed in range(6):
        found.append(random_scheme(seed, prime, 1 + seed % 4, [seed % 3, 1, 2, (seed + 1) % 2][:2 + seed % 3]))
    return found


def drawn(random, prime, many):
    return [random.randrange(prime) for _ in range(many)]


class Point56(ShareTest):
    def test_the_example(self):
        made = put_scheme(TWO, "b", Scheme(2, 2, {"c": [(1, 1)], "d": [(0, 1)]}))
        self.assertEqual([str(made.family()), made.width], ["a c d: a c d", 3])
        self.assertEqual(rows_of(made), {"a": [(1, 1, 0)], "c": [(0, 1, 1)], "d": [(0, 0, 1)]})

    def check(self, scheme, name, other, random):
        before = rows_of(scheme), rows_of(other)
        made = put_scheme(scheme, name, other)
        self.assertIs(type(made), Scheme)
        kept = [own for own in scheme.persons if own != name]
        self.assertEqual((made.prime, made.persons), (scheme.prime, union(kept, other.persons)))
        many, free = scheme.size(name), other.width - 1
        self.assertEqual(made.width, scheme.width + many * free)
        for own in kept:
            self.assertEqual(made.rows(own), [row + (0,) * (many * free) for row in scheme.rows(own)])
        for new in other.persons:
            self.assertEqual(made.size(new), many * other.size(new))
        self.check_opening(scheme, name, other, made, kept)
        for _ in range(3):
            self.check_shares(scheme, name, other, made, random)
        self.assertEqual((rows_of(scheme), rows_of(other)), before)

    def check_opening(self, scheme, name, other, made, kept):
        opens = {group: scheme.opens(group) for group in subsets(scheme.persons)}
        other_opens = {group: other.opens(group) for group in subsets(other.persons)}
        for group in subsets(made.persons):
            own = [member for member in group if member in kept]
            part = tuple(member for member in group if member in other.persons)
            self.assertIs(made.opens(group), opens[union(own, [name] if other_opens[part] else [])])
        if scheme.opens(scheme.persons) and other.opens(other.persons):
            self.assertEqual(made.family(), put(scheme.family(), name, other.family()))

    def check_shares(self, scheme, name, other, made, random):
        """Each share of the person is the secret of shares of its own, in the order of the rows."""
        prime, free = scheme.prime, other.width - 1
        secret, first = random.randrange(prime), drawn(random, prime, scheme.width - 1)
        given = deal(scheme, secret, first)
        blocks = [drawn(random, prime, free) for _ in given[name]]
        expected = {new: () for new in other.persons}
        for share, numbers in zip(given[name], blocks):
            for new, shares in deal(other, share, numbers).items():
                expected[new] += shares
        expected.update({own: shares for own, shares in given.items() if own != name})
        self.assertEqual(deal(made, secret, first + sum(blocks, [])), expected)

    def test_many_schemes(self):
        random = Random(56)
        for prime in PRIMES:
            schemes = schemes_over(prime)
            for at, scheme in enumerate(schemes):
                for name in scheme.persons:
                    room = 6 - len(scheme.persons)
                    fit = [other for other in schemes if len(other.persons) <= room]
                    for other in fit[at % 2::2]:
                        self.check(scheme, name, renamed(other, ("v", "w", "x", "y", "z")), random)

    def test_the_replaced_name_comes_back_as_a_new_person(self):
        scheme = Scheme(3, 2, {"a": [(1, 1)], "b": [(1, 2), (0, 2)], "c": [(0, 1)]})
        other = Scheme(3, 3, {"b": [(1, 1, 2)], "bb": [(0, 1, 0), (2, 0, 1)], "d": []})
        self.check(scheme, "b", other, Random(1))
        self.check(scheme, "b", Scheme(3, 1, {"b": [(1,)]}), Random(2))
        self.assertEqual(put_scheme(scheme, "b", Scheme(3, 1, {"b": [(1,)]})), scheme)

    def test_a_person_without_rows(self):
        scheme = Scheme(5, 2, {"a": [(1, 0)], "b": []})
        made = put_scheme(other=Scheme(5, 40, {"c": [(1,) * 40] * 16}), name="b", scheme=scheme)
        self.assertEqual((made.width, rows_of(made)), (2, {"a": [(1, 0)], "c": []}))

    def test_unknown_names(self):
        for name in ("c", "", "A", "aa"):
            for other in (TWO, Scheme(3, 1, {"a": [(1,)]}), Scheme(2, 40, {name: [] for name in NAMES})):
                self.assert_raises_with(UnknownName, "name", name, put_scheme, TWO, name, other)

    def test_other_primes(self):
        for prime in (3, 5, 7, 11):
            for other in (threshold_scheme(["c", "d"], 2, prime), threshold_scheme(["a"], 1, prime),
                          Scheme(prime, 40, {name: [(1,) * 40] * 16 for name in NAMES})):
                self.assert_raises_with(UnlikePrimes, "number", prime, put_scheme, TWO, "b", other)
        self.assert_raises_with(UnlikePrimes, "number", 2, put_scheme, threshold_scheme(NAMES, 1, 7), "a", TWO)

    def test_duplicate_names_and_too_many_persons(self):
        for names, first in [("a", "a"), ("ca", "a"), ("abcde", "a")]:
            other = Scheme(2, 40, {name: [(1,) * 40] * 16 for name in names})
            self.assert_raises_with(DuplicateName, "name", first, put_scheme, TWO, "b", other)
        five = Scheme(2, 40, {name: [(1,) * 40] * 16 for name in NAMES})
        self.assert_raises_with(DuplicateName, "name", "b", put_scheme, five, "a", five)
        for names, count in (("xy", 6), ("axy", 7), ("vwxyz", 9)):
            other = Scheme(2, 40, {name: [(1,) * 40] * 16 for name in names})
            self.assert_raises_with(BadCount, "count", count, put_scheme, five, "a", other)

    def test_widths(self):
        for width, size, other_width, expected in [
            (38, 1, 3, 40), (2, 2, 20, 40), (1, 13, 4, 40), (40, 16, 1, 40), (8, 16, 3, 40), (40, 0, 40, 40),
            (40, 1, 2, 41), (39, 2, 2, 41), (2, 1, 40, 41), (1, 2, 21, 41), (40, 16, 40, 664), (1, 14, 4, 43),
        ]:
            scheme = Scheme(2, width, {"a": [(1,) * width], "b": [(1,) * width] * size})
            other = Scheme(2, other_width, {"c": [(1,) * other_width], "d": []})
            if expected <= 40:
                self.assertEqual(put_scheme(scheme, "b", other).width, expected)
            else:
                self.assert_raises_with(BadCount, "count", expected, put_scheme, scheme, "b", other)

    def test_the_greatest_number_of_rows(self):
        for size, sizes, expected in [
            (16, [1, 0], 16), (4, [4, 3], 16), (1, [16, 16], 16), (0, [16, 16], 0), (5, [3, 2], 15),
            (9, [1, 2], 18), (2, [9, 1], 18), (16, [16, 3], 256), (8, [2, 3], 24), (6, [3, 2], 18),
        ]:
            scheme = Scheme(3, 1, {"a": [(1,)] * 16, "b": [(2,)] * size})
            other = Scheme(3, 1, {"c": [(1,)] * sizes[0], "d": [(0,)] * sizes[1]})
            if expected <= 16:
                made = put_scheme(scheme, "b", other)
                self.assertEqual([made.size(name) for name in "acd"], [16, size * sizes[0], size * sizes[1]])
            else:
                self.assert_raises_with(BadCount, "count", expected, put_scheme, scheme, "b", other)

    def test_the_width_comes_before_the_rows(self):
        scheme = Scheme(3, 39, {"a": [], "b": [(1,) * 39] * 9})
        other = Scheme(3, 2, {"c": [(1, 1)] * 2})
        self.assert_raises_with(BadCount, "count", 48, put_scheme, scheme, "b", other)
        other = Scheme(3, 1, {"c": [(1,)] * 2})
        self.assert_raises_with(BadCount, "count", 18, put_scheme, scheme, "b", other)


class Point57(ShareTest):
    def test_the_examples(self):
        self.assertEqual(both(TWO, TWO).width, 4)
        self.assertEqual(str(either(TWO, Scheme(2, 1, {"a": [(1,)], "b": []})).family()), "a b: a")

    def check(self, one, other, random):
        before = rows_of(one), rows_of(other)
        first, second = either(one, other), both(other=other, one=one)
        self.assertEqual(either(other=other, one=one), first)
        prime, sizes = one.prime, [one.size(name) + other.size(name) for name in one.persons]
        for made, width in ((first, one.width + other.width - 1), (second, one.width + other.width)):
            self.assertIs(type(made), Scheme)
            self.assertEqual((made.prime, made.persons, made.width), (prime, one.persons, width))
            self.assertEqual([made.size(name) for name in made.persons], sizes)
        for group in subsets(one.persons):
            self.assertIs(first.opens(group), one.opens(group) or other.opens(group))
            self.assertIs(second.opens(group), one.opens(group) and other.opens(group))
        if one.opens(one.persons) and other.opens(one.persons):
            self.assertEqual(first.family(), one.family() | other.family())
            self.assertEqual(second.family(), one.family() & other.family())
        for _ in range(3):
            secret, number = drawn(random, prime, 2)
            free, other_free = drawn(random, prime, one.width - 1), drawn(random, prime, other.width - 1)
            self.check_shares(deal(first, secret, free + other_free), deal(one, secret, free),
                              deal(other, secret, other_free))
            self.check_shares(deal(second, secret, [number] + free + other_free), deal(one, number, free),
                              deal(other, (secret - number) % prime, other_free))
        self.assertEqual((rows_of(one), rows_of(other)), before)

    def check_shares(self, found, given, other_given):
        self.assertEqual(found, {name: given[name] + other_given[name] for name in given})

    def test_many_schemes(self):
        random = Random(57)
        for prime in PRIMES:
            schemes = schemes_over(prime)
            for at, one in enumerate(schemes):
                for other in schemes[at % 2::2]:
                    if one.persons == other.persons:
                        self.check(one, other, random)
        for seed in range(4):
            self.check(random_scheme(seed, 3, 13, [8] * 5), random_scheme(seed + 9, 3, 27, [8, 0, 1, 7, 8]), random)

    def test_a_scheme_with_itself(self):
        for scheme in schemes_over(3):
            self.check(scheme, scheme, Random(3))

    def test_other_persons(self):
        for call in (either, both):
            for names in ("a", "abc", "ac", "cd", ("a", "bb")):
                for prime in (2, 3):
                    other = Scheme(prime, 40, {name: [(1,) * 40] * 16 for name in names})
                    self.assert_raises_with(UnlikePersons, "names", tuple(names), call, TWO, other)
                    self.assert_raises_with(UnlikePersons, "names", ("a", "b"), call, other, TWO)

    def test_other_primes(self):
        for call in (either, both):
            for prime in (3, 5, 7, 11):
                other = Scheme(prime, 40, {name: [(1,) * 40] * 16 for name in "ab"})
                self.assert_raises_with(UnlikePrimes, "number", prime, call, TWO, other)
                self.assert_raises_with(UnlikePrimes, "number", 2, call, other, TWO)

    def test_widths(self):
        for one_width, other_width in [(1, 1), (20, 20), (20, 21), (39, 1), (1, 40), (40, 1), (40, 2), (21, 21), (40, 40)]:
            one, other = [Scheme(2, width, {"a": [(1,) * width]}) for width in (one_width, other_width)]
            for call, width in ((either, one_width + other_width - 1), (both, one_width + other_width)):
                if width <= 40:
                    self.assertEqual(call(one, other).width, width)
                else:
                    self.assert_raises_with(BadCount, "count", width, call, one, other)

    def test_the_greatest_number_of_rows(self):
        for call in (either, both):
            for sizes, other_sizes, most in [([8, 0], [8, 16], 16), ([16, 1], [0, 15], 16), ([8, 0], [9, 16], 17),
                                             ([1, 16], [16, 2], 18), ([16, 16], [16, 15], 32), ([0, 0], [0, 0], 0)]:
                one = Scheme(5, 1, {"a": [(1,)] * sizes[0], "b": [(2,)] * sizes[1]})
                other = Scheme(5, 1, {"a": [(0,)] * other_sizes[0], "b": [(3,)] * other_sizes[1]})
                if most <= 16:
                    self.assertEqual(max(call(one, other).size(name) for name in "ab"), most)
                else:
                    self.assert_raises_with(BadCount, "count", most, call, one, other)

    def test_the_width_comes_before_the_rows(self):
        one, other = Scheme(2, 21, {"a": [(1,) * 21] * 16}), Scheme(2, 21, {"a": [(1,) * 21]})
        self.assert_raises_with(BadCount, "count", 41, either, one, other)
        self.assert_raises_with(BadCount, "count", 42, both, one, other)


class Points58And59LeftOut(ShareTest):
    def test_the_example(self):
        self.assertEqual(left_out(TWO, "b").persons, ("a",))

    def test_many_schemes(self):
        for scheme in some_schemes() + edge_schemes():
            for name in scheme.persons:
                others = [other for other in scheme.persons if other != name]
                if others == []:
                    self.assert_raises_with(BadCount, "count", 0, left_out, scheme, name)
                    continue
                found = left_out(name=name, scheme=scheme)
                self.assertEqual(found, Scheme(scheme.prime, scheme.width, {
                    other: scheme.rows(other) for other in others
                }))
                self.assertTrue(is_single(found) or not is_single(scheme))
                if found.opens(found.persons):
                    self.assertEqual(found.family(), scheme.family().without(name))

    def test_errors(self):
        for scheme in (TWO, Scheme(2, 1, {"a": [(1,)]})):
            for name in ("c", "", "A", "aa"):
                self.assert_raises_with(UnknownName, "name", name, left_out, scheme, name)
        self.assert_raises_with(BadCount, "count", 0, left_out, Scheme(2, 1, {"a": [(1,)]}), "a")


class Points58And59Published(ShareTest):
    def test_the_example(self):
        self.assertEqual(str(published_scheme(TWO, "b").family()), "a: a")

    def check(self, scheme, name):
        before = rows_of(scheme)
        others = tuple(other for other in scheme.persons if other != name)
        if scheme.opens((name,)):
            held = self.assert_raises_with(BadGroup, "value", (name,), published_scheme, scheme, name)
            self.assertIs(type(held), tuple)
        elif others == ():
            self.assert_raises_with(BadCount, "count", 0, published_scheme, scheme, name)
        else:
            found = published_scheme(name=name, scheme=scheme)
            self.assertIs(type(found), Scheme)
            self.assertEqual((found.prime, found.persons), (scheme.prime, others))
            self.assertEqual([found.size(other) for other in others], [scheme.size(other) for other in others])
            for group in subsets(others):
                self.assertIs(found.opens(group), scheme.opens(union(group, [name])))
            if found.opens(others):
                self.assertEqual(found.family(), scheme.family().published(name))
            self.assertIs(is_single(found), all(scheme.size(other) <= 1 for other in others))
        self.assertEqual(rows_of(scheme), before)

    def test_many_schemes(self):
        schemes = some_schemes() + [scheme for prime in PRIMES for scheme in schemes_over(prime)]
        schemes += [plain_scheme(family, prime) for prime in PRIMES for family in all_families(NAMES[:4])[prime::9]]
        schemes += [random_scheme(seed, 11, 40, [16, 7, 0, 16, 12]) for seed in range(3)]
        # Few free numbers, so that the secret stands in many rows and some rows make others.
        schemes += [random_scheme(seed, 2, 3, [2, 2, 3, 1]) for seed in range(40)]
        for scheme in schemes:
            for name in scheme.persons:
                self.check(scheme, name)

    def test_every_row_of_the_others_is_known(self):
        found = published_scheme(Scheme(3, 2, {"a": [(0, 1)], "b": [(0, 2), (0, 0)], "c": [(1, 1)]}), "a")
        self.assertEqual((found.size("b"), found.opens(("b",)), found.opens(("c",))), (2, False, True))

    def test_the_order_of_the_errors(self):
        for name in ("c", "", "A", "aa"):
            self.assert_raises_with(UnknownName, "name", name, published_scheme, TWO, name)
            self.assert_raises_with(UnknownName, "name", name, published_scheme, Scheme(2, 1, {"a": [(1,)]}), name)
        # Alone the person opens and is the only one, too.
        self.assert_raises_with(BadGroup, "value", ("a",), published_scheme, Scheme(2, 1, {"a": [(1,)]}), "a")
        self.assert_raises_with(BadCount, "count", 0, published_scheme, Scheme(2, 1, {"a": [(0,)]}), "a")
        self.assert_raises_with(BadCount, "count", 0, published_scheme, Scheme(2, 2, {"a": [(1, 1)]}), "a")


class Point59(unittest.TestCase):
    def test_single_schemes_stay_single(self):
        families = [family for many in (2, 3, 4) for family in all_families(NAMES[:many]) if is_port(family)]
        singles = [one_each(Family.read(text)) for text in (
            "v: v", "v w: v w", "v w x: v w / v x / w x", "v w x: v w x", "v w: v / w",
        )]
        seen = 0
        for scheme in [one_each(family) for family in families[::3]]:
            for name in scheme.persons:
                self.assertTrue(is_single(left_out(scheme, name)))
                if not scheme.opens((name,)):
                    self.assertTrue(is_single(published_scheme(scheme, name)))
                for other in singles:
                    if other.prime == scheme.prime and len(scheme.persons + other.persons) <= 6:
                        made = put_scheme(scheme, name, other)
                        self.assertTrue(is_single(made))
                        self.assertEqual(made.family(), put(scheme.family(), name, other.family()))
                        seen += 1
        self.assertGreater(seen, 50)


if __name__ == "__main__":
    unittest.main()
