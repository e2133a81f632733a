"""Points 11 and 12: the error classes."""

import unittest

from openshares import errors
from openshares.errors import ShareError
from tests.samples import DEEP, NO_GROUPS

ARGUMENTS = {
    "BadName": "name", "DuplicateName": "name", "UnknownName": "name", "BadCount": "count", "BadGroup": "value",
    "BadText": "text", "BadPrime": "number", "BadNumber": "value", "BadRow": "value", "NoGroup": None,
    "UnlikePersons": "names", "UnlikePrimes": "number", "BlindGroup": "value", "BadShares": "value",
    "NotSingle": "value", "IsSingle": None, "NothingToUndo": None,
}


class Point11(unittest.TestCase):
    def test_share_error_is_a_value_error(self):
        self.assertEqual(ShareError.__bases__, (ValueError,))

    def test_each_error_stands_right_under_share_error(self):
        for word in ARGUMENTS:
            with self.subTest(word):
                self.assertEqual(getattr(errors, word).__bases__, (ShareError,))

    def test_none_is_a_subclass_of_another_one(self):
        for one in ARGUMENTS:
            for other in ARGUMENTS:
                if one != other:
                    self.assertFalse(issubclass(getattr(errors, one), getattr(errors, other)), (one, other))

    def test_each_is_caught_as_share_error_and_as_value_error(self):
        for word, argument in ARGUMENTS.items():
            for caught in (ShareError, ValueError):
                with self.subTest(word), self.assertRaises(caught):
                    raise getattr(errors, word)(*([] if argument is None else ["a"]))


class Point12(unittest.TestCase):
    def test_there_are_seventeen_and_share_error(self):
        found = [word for word, value in vars(errors).items() if isinstance(value, type)]
        self.assertEqual(sorted(found), sorted([*ARGUMENTS, "ShareError"]))
        self.assertEqual(len(ARGUMENTS), 17)

    def test_the_argument_is_kept_as_it_is(self):
        for word, argument in ARGUMENTS.items():
            for value in [*NO_GROUPS, DEEP, ("a", "b"), b"x", object(), -5]:
                if argument is not None:
                    error = getattr(errors, word)(value)
                    self.assertIs(getattr(error, argument), value, word)
                    error = getattr(errors, word)(**{argument: value})
                    self.assertIs(getattr(error, argument), value, word)

    def test_a_list_is_not_copied(self):
        value = ["a", ["b"]]
        error = errors.BadGroup(value)
        value[1].append("c")
        self.assertIs(error.value, value)
        self.assertEqual(error.value, ["a", ["b", "c"]])

    def test_some_have_no_argument(self):
        for word, argument in ARGUMENTS.items():
            if argument is None:
                self.assertEqual(getattr(errors, word)().args, ())
            else:
                with self.assertRaises(TypeError):
                    getattr(errors, word)()


if __name__ == "__main__":
    unittest.main()
