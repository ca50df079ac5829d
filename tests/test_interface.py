"""The interface: names, modules and arguments; and the document's examples of these modules."""

import importlib
import inspect
import unittest

from codespans.coders import Reader, Writer
from codespans.drawing import carets, marked
from codespans.edits import grow, moved, patch
from codespans.errors import BadSpan, BadTable
from codespans.listings import listing
from codespans.lookup import Index
from codespans.ropes import Rope
from codespans.running import line_events
from codespans.tables import Table
from tests.support import Case

FUNCTIONS = {
    "codespans.spans": {"is_span": ["thing"]},
    "codespans.numbers": {"write_number": ["n"], "write_signed": ["n"]},
    "codespans.tables": {
        "difference": ["a", "b"], "shortest": ["table"], "rebased": ["table", "first_line"],
    },
    "codespans.edits": {
        "insert": ["table", "step", "spans"], "remove": ["table", "start", "end"], "cut": ["table", "start", "end"],
        "grow": ["table", "step", "many"], "joined": ["a", "b"], "patch": ["old", "new"],
        "patched": ["data", "change"], "moved": ["table", "line", "removed", "added"],
    },
    "codespans.drawing": {"carets": ["span", "text"], "marked": ["span", "lines"]},
    "codespans.running": {
        "line_events": ["table", "path"], "coverage": ["table", "path"], "missing": ["table", "path"],
        "hits": ["table", "path"], "breaks": ["table", "lines"], "stopped": ["table", "path", "lines"],
    },
    "codespans.loops": {
        "path_of": ["table", "program"], "loop_hits": ["table", "program"], "event_count": ["table", "program"],
    },
    "codespans.listings": {"listing": ["table"], "from_listing": ["rows", "first_line"]},
}

# What is passed by name only, with its default value.
BY_NAME = {"carets": {"indent": 4, "anchor": None, "tab": 0, "wide": ""}}

CLASSES = {
    "codespans.errors": {
        "TableError": None, "BadTable": ["at", "why"], "BadLine": ["line"], "BadSpan": ["at"],
        "BadStep": ["step"], "BadCount": ["many"], "BadText": ["at"], "TooLong": None,
    },
    "codespans.tables": {"Table": ["data", "first_line"]},
    "codespans.lookup": {"Index": ["table", "every"]},
    "codespans.ropes": {"Rope": ["parts"]},
    "codespans.coders": {"Writer": ["first_line"], "Reader": ["first_line"]},
}

METHODS = {
    Table: {
        "span_at": ["step"], "spans": [], "runs": [], "entries": [], "line_ranges": [], "lines": [],
        "stops": ["line"], "next_line": ["line"], "covering": ["line", "column"],
    },
    Index: {"checkpoints": [], "span_at": ["step"]},
    Rope: {
        "span_at": ["step"], "place_of": ["step"], "count_of": ["line"], "run_at": ["step"], "spans": ["start", "end"],
    },
    Writer: {"add": ["span", "steps"], "table": []},
    Reader: {"feed": ["piece"], "close": []},
}


def names_of(function):
    parameters = inspect.signature(function).parameters.values()
    return [one.name for one in parameters if one.kind is one.POSITIONAL_OR_KEYWORD]


class InterfaceTest(unittest.TestCase):
    def test_functions(self):
        for path, functions in FUNCTIONS.items():
            module = importlib.import_module(path)
            for name, parameters in functions.items():
                function = getattr(module, name)
                self.assertEqual(function.__module__, path)
                self.assertEqual(names_of(function), parameters)
                self.assertEqual(inspect.getfullargspec(function).kwonlydefaults, BY_NAME.get(name))

    def test_classes(self):
        for path, classes in CLASSES.items():
            module = importlib.import_module(path)
            for name, parameters in classes.items():
                found = getattr(module, name)
                self.assertEqual(found.__module__, path)
                if parameters is not None:
                    self.assertEqual(names_of(found), parameters)

    def test_methods_stand_in_the_class_itself(self):
        for owner, methods in METHODS.items():
            for name, parameters in methods.items():
                self.assertEqual(names_of(vars(owner)[name]), ["self", *parameters])
        self.assertIn("__eq__", vars(Table))
        self.assertIn("of", vars(Table))
        self.assertEqual(names_of(Table.of), ["spans", "first_line"])

    def test_attributes_are_set_when_an_object_is_created(self):
        table = Table.of([None], 1)
        for made, names in (
            (table, ["data", "first_line", "step_count"]), (Index(table, 1), ["entries_read"]),
            (Rope([(table, 2)]), ["step_count"]), (Writer(1), ["step_count"]), (Reader(1), ["step_count", "pending"]),
        ):
            for name in names:
                self.assertIn(name, vars(made))


class ExamplesTest(Case):
    def test_examples(self):
        self.assertEqual(list(Table.of([(5, 5, 4, 9)], 5).data), [128, 69])
        self.assertEqual(list(Table.of([None] * 10, 1).data), [255, 249])
        self.assertEqual(list(Table.of([(3, 3, 0, 130)], 1).data), [240, 4, 0, 1, 67, 2])
        self.assertEqual(list(Table.of([(2, 2, None, None)], 5).data), [232, 7])
        self.assertEqual(Table([232, 1], 5).spans(), [(5, 5, None, None)])
        self.check_raises(BadTable, {"at": 1, "why": "torn"}, Table, [128], 1)
        self.check_raises(BadTable, {"at": 1, "why": "inside"}, Table, [128, 200], 1)
        self.check_raises(BadSpan, {"at": 0}, Table.of, [(0, 0, 0, 0)], 1)
        self.assertEqual(Table.of([(1, 1, 0, 4), (1, 1, 2, 6)], 1).covering(1, 3), [(0, 2)])

    def test_examples_of_lookups_and_edits(self):
        self.assertEqual(Index(Table.of([None] * 20, 1), 2).checkpoints(), [(0, 0, 1), (16, 2, 1)])
        self.assertEqual(moved(Table.of([(1, 3, 0, 1)], 1), 2, 0, 5).spans(), [(1, 8, 0, 1)])
        table = Table.of([(1, 1, 0, 1), (1, 1, 0, 1)], 1)
        self.assertEqual(patch(table, grow(table, 0, 1)), (0, 1, b"\x82"))

    def test_examples_of_drawings_and_events(self):
        rows = ["    x =  a + b()", "         ~~^~~~~"]
        self.assertEqual(carets((1, 1, 5, 12), "x =  a + b()", anchor=(7, 8)), rows)
        self.assertEqual(marked((1, 2, 4, 3), ["if a:", "    b"]), ["    if a:", "        ^", "        b"])
        table = Table.of([(1, 1, 0, 1), (2, 2, 0, 1)], 1)
        self.assertEqual(line_events(table, [0, 1, 0, 1]), [(0, 1), (1, 2), (2, 1), (3, 2)])

    def test_examples_of_ropes_and_listings(self):
        self.assertEqual(Rope([(Table.of([None], 1), 10 ** 12)]).run_at(5), (0, 1000000000000, None))
        self.assertEqual(listing(Table.of([(5, 5, 4, 9), None], 1)), ["0-1 5:4-5:9", "1-2 none"])


if __name__ == "__main__":
    unittest.main()
