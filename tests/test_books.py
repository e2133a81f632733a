"""Points 10 and 63 to 69: Book."""

import unittest
from random import Random

from openshares.books import Book
from openshares.errors import BadCount, BadGroup, BadName, DuplicateName, NoGroup, NothingToUndo, ShareError
from openshares.errors import UnknownName
from openshares.families import Family
from openshares.papers import Paper
from openshares.schemes import Scheme
from openshares.verdicts import Verdict, check_verdict, judge
from tests.checking import ShareTest
from tests.samples import DEEP, NAMES, NO_GROUPS, NO_GROUPS_OF_ABC, least, opening, put_opening, subsets

START = Family.read("a b c d: a b / b c")
ABC = Family.read("a b c: a b / b c")


def told(verdict):
    """What a verdict tells, in a form that can be compared."""
    paper = verdict.paper
    if isinstance(paper, Paper):
        return verdict.kind, paper.pair, paper.chain, paper.parts
    return verdict.kind, paper.prime, paper.width, {name: paper.rows(name) for name in paper.persons}


def above(persons, groups):
    """The set of the groups that contain one of these."""
    return {group for group in subsets(persons) if any(set(one) <= set(group) for one in groups)}


def raised(call, *args):
    """What error the call raises, with its arguments, or None."""
    try:
        call(*args)
    except ShareError as error:
        return type(error), vars(error)
    return None


class Model:
    """A second reckoning of a book: what opens after each change, by trying all groups."""

    def __init__(self, family):
        self.states = [(family.persons, opening(family))]

    def opens_now(self):
        return self.states[-1]

    def step(self, change):
        """Make a change, or return its error and the error's attributes."""
        persons, opens = self.states[-1]
        outcome = getattr(self, "do_" + change[0])(persons, opens, *change[1:])
        if isinstance(outcome[0], type):
            return outcome
        self.states.append(outcome)
        return None

    def do_group(self, persons, opens, group):
        if group not in subsets(persons)[1:]:
            return BadGroup, {"value": group}
        return persons, opens | above(persons, [group])

    def do_drop(self, persons, opens, group):
        groups = least(opens)
        if group not in groups:
            return BadGroup, {"value": group}
        if len(groups) == 1:
            return NoGroup, {}
        return persons, above(persons, [one for one in groups if one != group])

    def do_person(self, persons, opens, name):
        if not (name.isalnum() and name[0].isalpha() and name == name.lower() and len(name) <= 6):
            return BadName, {"name": name}
        if name in persons:
            return DuplicateName, {"name": name}
        if len(persons) == 5:
            return BadCount, {"count": 6}
        persons = tuple(sorted(persons + (name,)))
        return persons, above(persons, opens)

    def do_leave(self, persons, opens, name):
        if name not in persons:
            return UnknownName, {"name": name}
        others = tuple(other for other in persons if other != name)
        if others == ():
            return BadCount, {"count": 0}
        opens = {group for group in opens if name not in group}
        return (others, opens) if opens else (NoGroup, {})

    def do_publish(self, persons, opens, name):
        if name not in persons:
            return UnknownName, {"name": name}
        if (name,) in opens:
            return BadGroup, {"value": (name,)}
        others = tuple(other for other in persons if other != name)
        return others, {group for group in subsets(others) if tuple(sorted(group + (name,))) in opens}

    def do_put(self, persons, opens, name, other):
        if name not in persons:
            return UnknownName, {"name": name}
        others = tuple(own for own in persons if own != name)
        for new in other.persons:
            if new in others:
                return DuplicateName, {"name": new}
        if len(others + other.persons) > 5:
            return BadCount, {"count": len(others + other.persons)}
        family = Family(persons, least(opens))
        return tuple(sorted(others + other.persons)), put_opening(family, name, other)

    def do_turn(self, persons, opens):
        return persons, {
            group for group in subsets(persons) if tuple(name for name in persons if name not in group) not in opens
        }


METHODS = {
    "group": "put_group", "drop": "drop_group", "person": "put_person", "leave": "drop_person",
    "publish": "publish", "put": "put", "turn": "turn",
}


def make(book, change):
    return getattr(book, METHODS[change[0]])(*change[1:])


def drawn_change(random, persons):
    """A change that is right for these persons, or somewhat wrong."""
    word = random.choice(["group", "group", "drop", "drop", "person", "leave", "publish", "put", "turn", "turn"])
    name = random.choice([*persons, "a", "b", "x", "zz9", "", "A"])
    if word in ("group", "drop"):
        groups = [*subsets(persons), ("a", "b"), ("zz",), ["a"], None, persons[::-1]]
        return word, random.choice(groups)
    if word == "put":
        texts = ["a: a", "x y: x", "x y: x y", "v w: v / w", "v w x: v w / v x / w x", "b zz: b", "a b c d e: c"]
        return word, name, Family.read(random.choice(texts))
    return (word,) if word == "turn" else (word, name)


class Examples(unittest.TestCase):
    def test_the_example(self):
        book = Book(START)
        book.put_group(("c", "d"))
        kind = book.tried([("drop", ("b", "c")), ("turn",)]).kind
        self.assertEqual(
            [kind, book.verdict().kind, str(book.family()), len(book), ("a", "c", "d") in book],
            ["single", "more", "a b c d: a b / b c / c d", 1, True],
        )


class Point63(unittest.TestCase):
    def test_a_new_book(self):
        book = Book(family=START)
        self.assertIs(type(book.family()), Family)
        self.assertEqual((book.family(), len(book), book.history()), (START, 0, [START]))
        self.assertIs(type(book.verdict()), Verdict)
        self.assertEqual(told(book.verdict()), told(judge(START)))

    def test_any_value_in_a_book(self):
        for family in (ABC, START, Family.read("a: a")):
            book = Book(family)
            for group in subsets(family.persons):
                self.assertIs(group in book, group in opening(family))
            for value in [*NO_GROUPS, DEEP, tuple(DEEP), "", "a", "b", ["a", "b"], family, ("b", "a")]:
                if value not in subsets(family.persons):
                    self.assertIs(value in book, False, repr(value))
        for value in NO_GROUPS_OF_ABC:
            self.assertIs(value in Book(ABC), False)

    def test_a_book_is_no_value_of_another_kind(self):
        book = Book(START)
        for value in [START, [START], str(START), None, ()]:
            self.assertFalse(book == value)

    def test_methods_without_a_result(self):
        book = Book(START)
        for change in [("group", ("a",)), ("drop", ("a",)), ("person", "e"), ("leave", "e"), ("publish", "c"),
                       ("put", "d", Family.read("c d: c / d")), ("turn",)]:
            self.assertIsNone(make(book, change))
        for _ in range(7):
            self.assertIsNone(book.undo())

    def test_books_do_not_share_anything(self):
        one, other = Book(START), Book(START)
        one.turn()
        self.assertEqual((len(one), len(other)), (1, 0))
        self.assertEqual(other.history(), [START])


class Point64(ShareTest):
    def test_put_group(self):
        book = Book(START)
        book.put_group(group=("b",))
        self.assertEqual(str(book.family()), "a b c d: b")
        book.put_group(("c", "d"))
        self.assertEqual(str(book.family()), "a b c d: b / c d")

    def test_any_value_that_is_no_group_with_a_person(self):
        book = Book(ABC)
        for value in [*NO_GROUPS_OF_ABC, ()]:
            held = self.assert_raises_with(BadGroup, "value", value, book.put_group, value)
            self.assertIs(held, value)
        self.assertEqual((book.family(), len(book)), (ABC, 0))

    def test_drop_group(self):
        book = Book(START)
        book.drop_group(group=("a", "b"))
        self.assertEqual(str(book.family()), "a b c d: b c")
        self.assert_raises_bare(NoGroup, book.drop_group, ("b", "c"))
        self.assertEqual((str(book.family()), len(book)), ("a b c d: b c", 1))

    def test_any_value_that_is_no_least_group(self):
        for family in (ABC, Family.read("a b c: b")):
            book = Book(family)
            for value in [*NO_GROUPS_OF_ABC, *subsets("abc"), list(family.groups[0])]:
                if value not in family.groups:
                    held = self.assert_raises_with(BadGroup, "value", value, book.drop_group, value)
                    self.assertIs(held, value)
            self.assertEqual((book.family(), len(book)), (family, 0))

    def test_the_others_stay_least_groups(self):
        book = Book(Family.read("a b c d: a / b c / b d"))
        book.drop_group(("a",))
        self.assertEqual(str(book.family()), "a b c d: b c / b d")
        self.assertIs(("a", "c", "d") in book, False)


class Point65(ShareTest):
    def test_put_person(self):
        book = Book(ABC)
        book.put_person(name="aa")
        self.assertEqual((book.family().persons, book.family().groups), (("a", "aa", "b", "c"), ABC.groups))
        book.put_person("zz9")
        self.assertEqual(book.family().needed, ("a", "b", "c"))

    def test_names(self):
        for family in (ABC, Family(NAMES, [("b",)])):
            book = Book(family)
            for name in ("", "A", "1a", "abcdefg", "a b", "a\n", " ", "a_"):
                self.assert_raises_with(BadName, "name", name, book.put_person, name)
            for name in family.persons:
                self.assert_raises_with(DuplicateName, "name", name, book.put_person, name)
            self.assertEqual((book.family(), len(book)), (family, 0))

    def test_a_sixth_person(self):
        book = Book(Family(NAMES, [("b",)]))
        for name in ("f", "a1", "zzzzzz"):
            self.assert_raises_with(BadCount, "count", 6, book.put_person, name)
        book.drop_person("e")
        book.put_person("f")
        self.assertEqual(str(book.family()), "a b c d f: b")

    def test_drop_person_and_publish(self):
        book = Book(ABC)
        self.assert_raises_with(UnknownName, "name", "d", book.drop_person, "d")
        self.assert_raises_with(UnknownName, "name", "d", book.publish, "d")
        self.assert_raises_bare(NoGroup, book.drop_person, "b")
        book.publish(name="b")
        self.assertEqual(str(book.family()), "a c: a / c")
        self.assert_raises_with(BadGroup, "value", ("a",), book.publish, "a")
        book.drop_person(name="a")
        self.assertEqual(str(book.family()), "c: c")
        self.assert_raises_with(BadCount, "count", 0, book.drop_person, "c")
        self.assertEqual(len(book), 2)

    def test_put_and_turn(self):
        book = Book(ABC)
        other = Family.read("b d: b / d")
        book.put(name="b", other=other)
        self.assertEqual(str(book.family()), "a b c d: a b / a d / b c / c d")
        self.assertEqual(str(other), "b d: b / d")
        book.turn()
        self.assertEqual(str(book.family()), "a b c d: a c / b d")
        self.assert_raises_with(UnknownName, "name", "x", book.put, "x", Family.read("a: a"))
        self.assert_raises_with(DuplicateName, "name", "b", book.put, "a", other)
        self.assert_raises_with(BadCount, "count", 6, book.put, "a", Family.read("a e f: e"))
        self.assertEqual(len(book), 2)


class Points66And68(ShareTest):
    def test_changes_after_which_the_family_stays_equal(self):
        book = Book(ABC)
        book.put_group(("a", "b"))
        book.put_group(("a", "b", "c"))
        book.put("a", Family.read("a: a"))
        self.assertEqual((book.family(), len(book), book.history()), (ABC, 3, [ABC] * 4))
        for many in (2, 1, 0):
            book.undo()
            self.assertEqual((book.family(), len(book), book.history()), (ABC, many, [ABC] * (many + 1)))
        self.assert_raises_bare(NothingToUndo, book.undo)

    def test_undo(self):
        book = Book(ABC)
        self.assert_raises_bare(NothingToUndo, book.undo)
        book.turn()
        turned = ABC.turned()
        book.put_group(("a",))
        book.undo()
        self.assertEqual((book.family(), len(book), book.history()), (turned, 1, [ABC, turned]))
        book.drop_person("c")
        self.assertEqual([str(family) for family in book.history()], [str(ABC), str(turned), "a b: b"])
        book.undo()
        book.undo()
        self.assertEqual((book.family(), len(book), book.history()), (ABC, 0, [ABC]))
        self.assert_raises_bare(NothingToUndo, book.undo)
        self.assertEqual((book.family(), len(book)), (ABC, 0))

    def test_calls_that_raise_are_no_changes(self):
        book = Book(ABC)
        book.turn()
        for call, argument in [(book.put_group, ()), (book.drop_group, ("a",)), (book.put_person, "a"),
                               (book.drop_person, "x"), (book.publish, "b"), (book.put_person, "A")]:
            self.assertRaises(ShareError, call, argument)
            self.assertEqual((len(book), book.history()), (1, [ABC, ABC.turned()]))
        book.undo()
        self.assertEqual(book.family(), ABC)

    def test_the_caller_may_change_the_history(self):
        book = Book(ABC)
        for _ in range(2):
            book.history().clear()
            book.history().append(None)
            self.assertEqual(book.history(), [ABC])
        book.turn()
        held = book.history()
        book.undo()
        self.assertEqual(len(held), 2)


class Point67(ShareTest):
    def test_each_word(self):
        for change, text in [
            (("group", ("b",)), "a b c d: b"), (("drop", ("a", "b")), "a b c d: b c"),
            (("person", "e"), "a b c d e: a b / b c"), (("leave", "d"), "a b c: a b / b c"),
            (("publish", "b"), "a c d: a / c"), (("put", "b", Family.read("b e: b e")), "a b c d e: a b e / b c e"),
            (("turn",), "a b c d: b / a c"),
        ]:
            book = Book(START)
            self.assertEqual(told(book.tried([change])), told(judge(Family.read(text))))
            self.assertEqual(told(book.tried(changes=(change,))), told(judge(Family.read(text))))
            self.assertEqual((book.family(), len(book), book.history()), (START, 0, [START]))
            self.assertRaises(NothingToUndo, book.undo)

    def test_no_changes(self):
        for changes in ([], ()):
            self.assertEqual(told(Book(START).tried(changes)), told(judge(START)))

    def test_the_first_error_counts(self):
        book = Book(START)
        book.put_group(("c", "d"))
        value = ["x"]
        held = self.assert_raises_with(
            BadGroup, "value", value, book.tried, [("turn",), ("group", value), ("leave", "x"), ("drop", None)]
        )
        self.assertIs(held, value)
        self.assert_raises_with(UnknownName, "name", "x", book.tried, [("leave", "x"), ("group", ())])
        self.assert_raises_with(UnknownName, "name", "d", book.tried, [("leave", "d"), ("leave", "d")])
        self.assert_raises_bare(NoGroup, book.tried, [("drop", group) for group in book.family().groups])
        self.assert_raises_with(BadCount, "count", 6, book.tried, [("person", "e"), ("person", "f")])
        self.assertEqual((len(book), book.history()), (1, [START, book.family()]))
        book.undo()
        self.assertEqual(book.family(), START)

    def test_the_list_stays(self):
        changes = [("turn",), ("group", ("a",)), ("put", "b", Family.read("x: x"))]
        Book(START).tried(changes)
        self.assertEqual(changes, [("turn",), ("group", ("a",)), ("put", "b", Family.read("x: x"))])


class Point69(unittest.TestCase):
    def check(self, book, model, random):
        persons, opens = model.opens_now()
        family = book.family()
        self.assertEqual((family.persons, family.groups), (persons, least(opens)))
        self.assertEqual(len(book), len(model.states) - 1)
        self.assertEqual(
            [(past.persons, past.groups) for past in book.history()],
            [(names, least(groups)) for names, groups in model.states],
        )
        for group in [*subsets(persons), ("q",), None, ["a"], persons[::-1] + persons]:
            self.assertIs(group in book, group in subsets(persons) and group in opens)
        if random.random() < 0.1:
            verdict = book.verdict()
            self.assertEqual(told(verdict), told(judge(Family(persons, least(opens)))))
            self.assertIs(check_verdict(family, verdict), True)
            self.assertIn(type(verdict.paper), (Scheme, Paper))

    def test_long_sequences(self):
        for seed in range(6):
            random = Random(seed)
            book, model = Book(START), Model(START)
            errors = changes = 0
            for _ in range(250):
                if random.random() < 0.2:
                    if len(model.states) > 1:
                        book.undo()
                        model.states.pop()
                    else:
                        self.assertRaises(NothingToUndo, book.undo)
                else:
                    change = drawn_change(random, model.opens_now()[0])
                    expected = model.step(change)
                    self.assertEqual(raised(make, book, change), expected, change)
                    errors, changes = errors + (expected is not None), changes + (expected is None)
                self.check(book, model, random)
            self.assertGreater(min(errors, changes), 40)
            while len(book):
                book.undo()
                model.states.pop()
                self.check(book, model, random)
            self.assertEqual(book.family(), START)

    def test_tried_in_long_sequences(self):
        for seed in range(6):
            random = Random(seed + 100)
            book, model = Book(START), Model(START)
            for _ in range(40):
                make_after = drawn_change(random, model.opens_now()[0])
                tried, trial = [], Model(book.family())
                expected = None
                for _ in range(random.randint(0, 4)):
                    tried.append(drawn_change(random, trial.opens_now()[0]))
                    expected = expected or trial.step(tried[-1])
                if expected is None:
                    persons, opens = trial.opens_now()
                    self.assertEqual(told(book.tried(tried)), told(judge(Family(persons, least(opens)))))
                else:
                    self.assertEqual(raised(book.tried, tried), expected)
                self.check(book, model, random)
                self.assertEqual(raised(make, book, make_after), model.step(make_after))
                self.check(book, model, random)


if __name__ == "__main__":
    unittest.main()
