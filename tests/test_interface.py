"""The interface of stages 7 to 9: each name stands in its file, with its parameters in their sequence."""

import ast
import importlib
import inspect
import unittest
from pathlib import Path

PACKAGE = Path(__file__).parent.parent / "lateledger"
FUNCTIONS = {
    "facts": ["is_fact value houses goods days", "counting facts", "in_force facts day"],
    "steps": ["made word reads", "entries_of word reads", "booked balances entries"],
    "deeds": ["is_deed hall value", "reaches hall fact day", "do_agree hall one other", "parting hall one other",
              "is_parting hall one other value", "do_part_at hall one other"],
    "quarrels": ["quarrels hall one other", "least_cover hall one other", "matching hall one other", "is_cover hall one other value",
                 "is_matching hall one other value", "are_best hall one other cover pairs"],
    "meet": ["ran hall log", "lean hall log", "weavings many more", "met hall one other", "how_many_ends hall one other"],
    "texts": ["line_of hall deed", "deed_in hall value", "text_of hall", "bytes_of hall", "read_hall text"],
    "log": ["is_record value", "check_of number record"],
    "claims": ["is_claim value", "is_true claim", "paper_of claim", "is_paper claim value"],
    "desk": ["tried desk action"],
}
CLASSES = {
    ("days", "Run"): ["__init__ houses goods days facts", "houses", "goods", "with_fact fact", "facts", "counting", "fact key", "reads day word",
                      "makes day word", "balances day", "entries day", "owed day", "days", "__contains__", "__len__", "__eq__", "__repr__"],
    ("closing", "Hall"): ["__init__ houses goods days deeds", "houses", "goods", "days", "closed", "run", "tell fact", "tell_all facts", "close day",
                          "deeds", "as_known many", "copy", "told day", "told_entries day", "told_balances day", "corrections",
                          "correction_of day", "__len__", "__eq__", "__repr__"],
    ("log", "Log"): ["__init__ entries", "entries", "records", "sheet", "first many", "behind other", "read value", "torn text", "__add__",
                     "__len__", "__contains__", "__iter__", "__eq__", "__repr__"],
    ("desk", "Desk"): ["__init__ houses goods days", "hall", "names", "do command", "do_all commands", "log", "recovered houses goods days text",
                       "chart", "__call__ command", "__iadd__", "__getitem__", "__setitem__", "__contains__", "__len__"],
    ("desk", "Trial"): ["__init__ desk", "__enter__", "__exit__"],
}
DEFAULTS = {"Run": {"facts": ()}, "Hall": {"deeds": ()}, "Log": {"entries": ()}}


class InterfaceTest(unittest.TestCase):
    def body_of(self, name):
        return ast.parse((PACKAGE / f"{name}.py").read_text(encoding="ascii")).body

    def test_functions(self):
        for name, told in FUNCTIONS.items():
            module = importlib.import_module(f"lateledger.{name}")
            defined = [node.name for node in self.body_of(name) if isinstance(node, ast.FunctionDef)]
            for text in told:
                function, *parameters = text.split()
                self.assertIn(function, defined, name)
                self.assertEqual(list(inspect.signature(getattr(module, function)).parameters), parameters)

    def test_classes(self):
        for (name, kind), told in CLASSES.items():
            body = [node for node in self.body_of(name) if isinstance(node, ast.ClassDef) and node.name == kind][0].body
            defined = {node.name: node for node in body if isinstance(node, ast.FunctionDef)}
            for text in told:
                method, *parameters = text.split()
                self.assertIn(method, defined, kind)
                given = defined[method].args
                found = [part.arg for part in given.args if part.arg not in ("self", "cls")] + ([given.vararg.arg] if given.vararg else [])
                if parameters or not method.startswith("__"):
                    self.assertEqual(found, parameters, (kind, method))

    def test_defaults(self):
        for (name, kind), _ in CLASSES.items():
            parameters = inspect.signature(getattr(importlib.import_module(f"lateledger.{name}"), kind)).parameters.values()
            found = {part.name: part.default for part in parameters if part.default is not inspect.Parameter.empty}
            self.assertEqual(found, DEFAULTS.get(kind, {}))

    def test_properties_and_methods_of_classes(self):
        for name, kind, words in (("days", "Run", ["days"]), ("closing", "Hall", ["closed", "days", "run"]), ("desk", "Desk", ["chart"])):
            there = vars(getattr(importlib.import_module(f"lateledger.{name}"), kind))
            self.assertEqual(sorted(word for word, part in there.items() if isinstance(part, property)), words)
        self.assertIsInstance(inspect.getattr_static(importlib.import_module("lateledger.log").Log, "read"), staticmethod)
        self.assertIsInstance(inspect.getattr_static(importlib.import_module("lateledger.log").Log, "torn"), staticmethod)
        self.assertIsInstance(inspect.getattr_static(importlib.import_module("lateledger.desk").Desk, "recovered"), classmethod)


if __name__ == "__main__":
    unittest.main()
