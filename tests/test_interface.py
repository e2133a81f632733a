"""The interface: names, arguments, and where they are defined."""

import inspect
import unittest

from openshares import circuits, dealing, families, joining, makers, naming, papers, rows, schemes, single, verdicts
from openshares.books import Book
from openshares.families import Family
from openshares.papers import Paper
from openshares.schemes import Scheme
from openshares.verdicts import Verdict

FUNCTIONS = [
    (naming, "valid_name", ["text"]),
    (families, "all_groups", ["persons"]),
    (families, "is_group", ["persons", "value"]),
    (families, "rest", ["persons", "group"]),
    (rows, "product", ["prime", "one", "other"]),
    (rows, "combined", ["prime", "factors", "rows"]),
    (rows, "rank", ["prime", "rows"]),
    (rows, "factors_for", ["prime", "rows", "goal"]),
    (rows, "blind_row", ["prime", "rows", "width"]),
    (rows, "solutions", ["prime", "rows", "values", "width"]),
    (schemes, "check_factors", ["scheme", "group", "factors"]),
    (schemes, "check_blind", ["scheme", "group", "row"]),
    (schemes, "fits", ["scheme", "family"]),
    (dealing, "deal", ["scheme", "secret", "numbers"]),
    (dealing, "ways", ["scheme", "shares", "secret"]),
    (dealing, "fitting", ["scheme", "shares"]),
    (dealing, "open_shares", ["scheme", "shares"]),
    (dealing, "agreeing", ["scheme", "shares"]),
    (dealing, "added", ["scheme", "one", "other"]),
    (makers, "plain_scheme", ["family", "prime"]),
    (makers, "threshold_scheme", ["persons", "many", "prime"]),
    (makers, "turned_scheme", ["scheme"]),
    (makers, "lean_scheme", ["scheme"]),
    (circuits, "rounds", ["family"]),
    (circuits, "circuits", ["family"]),
    (circuits, "port_gap", ["family"]),
    (circuits, "is_port", ["family"]),
    (circuits, "port_rank", ["family", "group"]),
    (papers, "check_paper", ["family", "paper"]),
    (papers, "paper_of", ["family"]),
    (papers, "ranks", ["scheme", "paper"]),
    (single, "is_single", ["scheme"]),
    (single, "least_prime", ["family"]),
    (single, "one_each", ["family"]),
    (joining, "put", ["family", "name", "other"]),
    (joining, "put_scheme", ["scheme", "name", "other"]),
    (joining, "either", ["one", "other"]),
    (joining, "both", ["one", "other"]),
    (joining, "left_out", ["scheme", "name"]),
    (joining, "published_scheme", ["scheme", "name"]),
    (verdicts, "judge", ["family"]),
    (verdicts, "check_verdict", ["family", "verdict"]),
]
METHODS = [
    (Family, {
        "__init__": ["self", "persons", "groups"], "opens": ["self", "group"], "turned": ["self"],
        "without": ["self", "name"], "published": ["self", "name"], "__or__": ["self", "other"],
        "__and__": ["self", "other"], "__eq__": ["self", "other"], "__str__": ["self"],
    }),
    (Scheme, {
        "__init__": ["self", "prime", "width", "rows"], "rows": ["self", "name"], "size": ["self", "name"],
        "rank": ["self", "group"], "opens": ["self", "group"], "factors": ["self", "group"],
        "blind": ["self", "group"], "family": ["self"], "restricted": ["self", "names"], "__eq__": ["self", "other"],
    }),
    (Paper, {"__init__": ["self", "pair", "chain", "parts"]}),
    (Verdict, {"__init__": ["self", "kind", "paper"]}),
    (Book, {
        "__init__": ["self", "family"], "family": ["self"], "verdict": ["self"], "tried": ["self", "changes"],
        "put_group": ["self", "group"], "drop_group": ["self", "group"], "put_person": ["self", "name"],
        "drop_person": ["self", "name"], "publish": ["self", "name"], "put": ["self", "name", "other"],
        "turn": ["self"], "undo": ["self"], "history": ["self"], "__len__": ["self"],
    }),
]
PROPERTIES = [
    (Family, ["persons", "needed", "groups"]), (Scheme, ["prime", "width", "persons"]),
    (Paper, ["pair", "chain", "parts"]), (Verdict, ["kind", "paper"]),
]


class Interface(unittest.TestCase):
    def test_functions(self):
        for module, word, arguments in FUNCTIONS:
            function = vars(module)[word]
            self.assertEqual(function.__module__, module.__name__)
            self.assertEqual(list(inspect.signature(function).parameters), arguments)

    def test_where_the_classes_are_defined(self):
        self.assertEqual(Family.__module__, "openshares.families")
        self.assertEqual(Scheme.__module__, "openshares.schemes")
        self.assertEqual(Paper.__module__, "openshares.papers")
        self.assertEqual(Verdict.__module__, "openshares.verdicts")
        self.assertEqual(Book.__module__, "openshares.books")
        self.assertIn("__contains__", vars(Book))

    def test_methods(self):
        for owner, methods in METHODS:
            for word, arguments in methods.items():
                self.assertEqual(list(inspect.signature(vars(owner)[word]).parameters), arguments)

    def test_properties(self):
        for owner, words in PROPERTIES:
            for word in words:
                self.assertIsInstance(vars(owner)[word], property)

    def test_the_class_methods_of_family(self):
        for word, arguments in (("threshold", ["persons", "many"]), ("read", ["text"])):
            self.assertIsInstance(vars(Family)[word], classmethod)
            self.assertEqual(list(inspect.signature(getattr(Family, word)).parameters), arguments)


if __name__ == "__main__":
    unittest.main()
