"""The interface: each name stands in its file, with its arguments."""

import ast
import inspect
import unittest
from importlib import import_module
from pathlib import Path

PACKAGE = Path(__file__).resolve().parent.parent / "ledgerloom"
ERRORS = [
    "InvalidNumber", "InvalidName", "InvalidValue", "InvalidTree", "InvalidText", "InvalidSheets", "InvalidViews",
    "InvalidRights", "InvalidCell", "InvalidDeed", "InvalidStamp", "InvalidMark", "InvalidBytes",
]
INTERFACE = {
    "errors": {"BookError": None, **{name: ["value"] for name in ERRORS}, "Undefined": ["what"]},
    "amounts": {
        "is_value": ["value"], "made_of": ["sign", "one", "other"], "shown": ["value"], "is_less": ["one", "other"],
        "written": ["value"], "read_value": ["text"],
    },
    "trees": {"is_tree": ["value"], "printed": ["book", "tree"], "read_tree": ["book", "text"]},
    "books": {
        "Book": ["owner", "sheets", "views", "summaries", "rights"], "right_of": ["book", "person", "sheet", "column"],
    },
    "meaning": {
        "value_of": ["book", "cell"], "all_values": ["book"], "on_rings": ["book"], "needs": ["book", "cell"],
        "needs_in_all": ["book", "cell"],
    },
    "reckoning": {"changed": ["before", "after"], "reached": ["book", "cells"], "Reckoner": ["book"]},
    "papers": {
        "paper_of": ["book", "cell"], "paper_holds": ["book", "cell", "value"], "paper_for": ["book", "person", "cell"],
    },
    "seeing": {
        "seen": ["book", "person", "cell"], "view_rows": ["book", "person", "name"],
        "summary_of": ["book", "person", "name"],
    },
    "pages": {"page": ["book", "person", "sheet"], "read_page": ["text"]},
    "deeds": {"is_deed": ["value"], "done": ["book", "stamp", "deed"]},
    "copies": {
        "book_of": ["book", "steps"], "void_of": ["book", "steps"], "off_of": ["book", "steps"],
        "Copy": ["person", "life", "book"],
    },
    "stores": {
        "told_of": ["value"], "value_told": ["text"], "stored": ["steps"], "recovered": ["row"], "tidied": ["steps"],
    },
    "office": {"Office": ["book", "people"]},
}
METHODS = {
    ("books", "Book"): {"__eq__": ["self", "other"]},
    ("reckoning", "Reckoner"): {"value": ["self", "cell"], "turn": ["self", "book"], "all_values": ["self"]},
    ("copies", "Copy"): {
        "do": ["self", "deed"], "undo": ["self", "stamp"], "redo": ["self", "stamp"], "hear": ["self", "steps"],
    },
    ("office", "Office"): {
        "steps_of": ["self", "person"], "book_of": ["self", "person"], "store_of": ["self", "person"],
        "do": ["self", "person", "deed"], "undo": ["self", "person", "stamp"], "redo": ["self", "person", "stamp"],
        "send": ["self", "person", "other"], "crash": ["self", "person", "many"], "tidy": ["self", "person"],
        "see": ["self", "person", "cell"], "watch": ["self", "person", "cell"], "watched": ["self", "person"],
        "news": ["self", "person"],
    },
}


class InterfaceTest(unittest.TestCase):
    def test_names_and_arguments(self):
        for module, names in INTERFACE.items():
            for name, arguments in names.items():
                thing = getattr(import_module(f"ledgerloom.{module}"), name)
                if arguments is not None:
                    self.takes(thing, arguments)

    def takes(self, thing, arguments):
        parameters = inspect.signature(thing).parameters.values()
        self.assertEqual([parameter.name for parameter in parameters], arguments)
        for parameter in parameters:
            self.assertIs(parameter.kind, parameter.POSITIONAL_OR_KEYWORD)
            self.assertIs(parameter.default, parameter.empty)

    def test_methods_stand_in_the_classes_themselves(self):
        for (module, name), methods in METHODS.items():
            kind = getattr(import_module(f"ledgerloom.{module}"), name)
            for method, arguments in methods.items():
                self.assertIn(method, vars(kind))
                self.takes(vars(kind)[method], arguments)

    def test_each_is_defined_in_its_own_file(self):
        for module, names in INTERFACE.items():
            tree = ast.parse((PACKAGE / f"{module}.py").read_text())
            defined = {part.name for part in tree.body if isinstance(part, (ast.FunctionDef, ast.ClassDef))}
            self.assertLessEqual(set(names), defined)


if __name__ == "__main__":
    unittest.main()
