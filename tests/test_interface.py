"""The interface: names, modules and arguments; and the document's examples of these modules."""

import importlib
import inspect
import unittest

from codespans.drawing import carets, marked
from codespans.edits import grow, moved, patch
from codespans.errors import BadSpan, BadTable
from codespans.lookup import Index
from codespans.running import line_events
from codespans.tables import Table
from tests.support import Case

FUNCTIONS = {
    "codespans.spans": {"is_span": ["thing"]},
    "codespans.numbers": {"write_number": ["n"], "write_signed": ["n"]},
    "codespans.tables": {
        "difference": ["a", "b"], "shortest": ["table"], "rebased": ["table", "first_line"],
    },
    "codespans.edits": {
        "insert": ["table", "step", "spans"], "remove": ["table", "start", "end"], "cut": ["table", "start", "end"],
        "grow": ["table", "step", "many"], "joined": ["a", "b"], "patch": ["old", "new"],
        "patched": ["data", "change"], "moved": ["table", "line", "removed", "added"],
    },
    "codespans.drawing": {"carets": ["span", "text"], "marked": ["span", "lines"]},
    "codespans.running": {
        "line_events": ["table", "path"], "coverage": ["table", "path"], "missing": ["table", "path"],
        "hits": ["table", "path"], "breaks": ["table", "lines"], "stopped": ["table", "path", "lines"],
    },
}

# What is passed by name only, with its default value.
BY_NAME = {"carets": {"indent": 4, "anchor": None, "tab": 0, "wide": ""}}

CLASSES = {
    "codespans.errors": {
        "TableError": None, "BadTable": ["at", "why"], "BadLine": ["line"], "BadSpan": ["at"],
        "BadStep": ["step"], "BadCount": ["many"], "BadText": ["at"], "TooLong": None,
    },
    "codespans.tables": {"Table": ["data", "first_line"]},
    "codespans.lookup": {"Index": ["table", "every"]},
}

METHODS = {
    Table: {
        "span_at": ["step"], "spans": [], "runs": [], "entries": [], "line_ranges": [], "lines": [],
        "stops": ["line"], "next_line": ["line"], "covering": ["line", "column"],
    },
    Index: {"checkpoints": [], "span_at": ["step"]},
}


def names_of(function):
    parameters = inspect.signature(function).parameters.values()
    return [one.name for one in parameters if one.kind is one.POSITIONAL_OR_KEYWORD]


class InterfaceTest(unittest.TestCase):
    def test_functions(self):
        for path, functions in FUNCTIONS.items():
            module = importlib.import_module(path)
            for name, parameters in functions.items():
                function = getattr(module, name)
                self.assertEqual(function.__module__, path)
                self.assertEqual(names_of(function), parameters)
                self.assertEqual(inspect.getfullargspec(function).kwonlydefaults, BY_NAME.get(name))

    def test_classes(self):
        for path, classes in CLASSES.items():
            module = importlib.import_module(path)
            for name, parameters in classes.items():
                found = getattr(module, name)
                self.assertEqual(found.__module__, path)
                if parameters is not None:
                    self.assertEqual(names_of(found), parameters)

    def test_methods_stand_in_the_class_itself(self):
        for owner, methods in METHODS.items():
            for name, parameters in methods.items():
                self.assertEqual(names_of(vars(owner)[name]), ["self", *parameters])
        self.assertIn("__eq__", vars(Table))
        self.assertIn("of", vars(Table))
        self.assertEqual(names_of(Table.of), ["spans", "first_line"])


class ExamplesTest(Case):
    def test_examples(self):
        self.assertEqual(list(Table.of([(5, 5, 4, 9)], 5).data), [128, 69])
        self.assertEqual(list(Table.of([None] * 10, 1).data), [255, 249])
        self.assertEqual(list(Table.of([(3, 3, 0, 130)], 1).data), [240, 4, 0, 1, 67, 2])
        self.assertEqual(list(Table.of([(2, 2, None, None)], 5).data), [232, 7])
        self.assertEqual(Table([232, 1], 5).spans(), [(5, 5, None, None)])
        self.check_raises(BadTable, {"at": 1, "why": "torn"}, Table, [128], 1)
        self.check_raises(BadTable, {"at": 1, "why": "inside"}, Table, [128, 200], 1)
        self.check_raises(BadSpan, {"at": 0}, Table.of, [(0, 0, 0, 0)], 1)
        self.assertEqual(Table.of([(1, 1, 0, 4), (1, 1, 2, 6)], 1).covering(1, 3), [(0, 2)])

    def test_examples_of_lookups_and_edits(self):
        self.assertEqual(Index(Table.of([None] * 20, 1), 2).checkpoints(), [(0, 0, 1), (16, 2, 1)])
        self.assertEqual(moved(Table.of([(1, 3, 0, 1)], 1), 2, 0, 5).spans(), [(1, 8, 0, 1)])
        table = Table.of([(1, 1, 0, 1), (1, 1, 0, 1)], 1)
        self.assertEqual(patch(table, grow(table, 0, 1)), (0, 1, b"\x82"))

    def test_examples_of_drawings_and_events(self):
        rows = ["    x =  a + b()", "         ~~^~~~~"]
        self.assertEqual(carets((1, 1, 5, 12), "x =  a + b()", anchor=(7, 8)), rows)
        self.assertEqual(marked((1, 2, 4, 3), ["if a:", "    b"]), ["    if a:", "        ^", "        b"])
        table = Table.of([(1, 1, 0, 1), (2, 2, 0, 1)], 1)
        self.assertEqual(line_events(table, [0, 1, 0, 1]), [(0, 1), (1, 2), (2, 1), (3, 2)])


if __name__ == "__main__":
    unittest.main()
