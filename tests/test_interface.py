"""The interface: names, arguments, and where they are defined."""

import inspect
import unittest

from openshares import families, naming
from openshares.families import Family

FUNCTIONS = [
    (naming, "valid_name", ["text"]),
    (families, "all_groups", ["persons"]),
    (families, "is_group", ["persons", "value"]),
    (families, "rest", ["persons", "group"]),
]
METHODS = {
    "__init__": ["self", "persons", "groups"], "opens": ["self", "group"], "turned": ["self"],
    "without": ["self", "name"], "published": ["self", "name"], "__or__": ["self", "other"],
    "__and__": ["self", "other"], "__eq__": ["self", "other"], "__str__": ["self"],
}


class Interface(unittest.TestCase):
    def test_functions(self):
        for module, word, arguments in FUNCTIONS:
            function = vars(module)[word]
            self.assertEqual(function.__module__, module.__name__)
            self.assertEqual(list(inspect.signature(function).parameters), arguments)

    def test_the_methods_of_family(self):
        self.assertEqual(Family.__module__, "openshares.families")
        for word, arguments in METHODS.items():
            self.assertEqual(list(inspect.signature(vars(Family)[word]).parameters), arguments)

    def test_the_class_methods_of_family(self):
        for word, arguments in (("threshold", ["persons", "many"]), ("read", ["text"])):
            self.assertIsInstance(vars(Family)[word], classmethod)
            self.assertEqual(list(inspect.signature(getattr(Family, word)).parameters), arguments)


if __name__ == "__main__":
    unittest.main()
