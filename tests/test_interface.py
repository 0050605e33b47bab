"""The names, arguments and methods of the interface stand where the document lists them."""

import ast
import importlib
import inspect
import os
import unittest

from anypads.machines import Machine
from anypads.parts import Byte, Kind, Overlay, Record, Row, Use
from tests.values import FIELDS

ROOT = os.path.dirname(os.path.dirname(os.path.abspath(__file__)))

FUNCTIONS = {"anypads.parts": {"units": ["part"]}}
# The methods of each class, with their parameters behind `self`.
CLASSES = {
    "anypads.errors": {name: {"__init__": list(fields)} for name, fields in FIELDS.items()},
    "anypads.parts": {
        "Part": {
            "__eq__": None, "__mul__": None, "__getitem__": None, "__contains__": None,
            "paths": [], "kinds_in": [], "uses": [], "put": ["path", "other"],
        },
        "Kind": {"__init__": ["name", "times"], "__str__": []},
        "Byte": {"__init__": [], "__str__": []},
        "Use": {"__init__": ["name"], "__str__": []},
        "Group": {"__len__": []},
        "Spread": {},
        "Row": {"__init__": ["part", "n"], "__str__": []},
        "Record": {"__init__": ["fields"], "__add__": None, "__str__": []},
        "Overlay": {"__init__": ["members"], "__or__": None, "__str__": []},
    },
    "anypads.machines": {
        "Machine": {
            "__init__": ["kinds", "exponents"], "__getitem__": None, "__lt__": None, "__le__": None, "__gt__": None,
            "__ge__": None, "__eq__": None, "__and__": None, "__or__": None, "__lshift__": None, "__rshift__": None,
            "__str__": [], "raised": ["scale", "n"], "near": ["r"], "size": ["part"], "align": ["part"],
            "place": ["part", "path"], "end": ["part", "path"],
        },
    },
}
ATTRIBUTES = [
    (Kind("i"), {"name": str, "times": int, "depth": int}),
    (Byte(), {"depth": int}),
    (Use("p"), {"name": str, "depth": int}),
    (Row(Byte(), 2), {"part": Byte, "n": int, "depth": int}),
    (Record([("a", Byte())]), {"fields": tuple, "depth": int}),
    (Overlay([("a", Byte())]), {"members": tuple, "depth": int}),
    (Machine([Kind("i")], {"i": (1, 0)}), {"kinds": tuple, "scales": tuple}),
]


def written(module):
    """The functions and classes that the file of a module defines itself."""
    path = os.path.join(ROOT, *module.split(".")) + ".py"
    with open(path, encoding="utf-8") as file:
        body = ast.parse(file.read()).body
    return {node.name: node for node in body if isinstance(node, (ast.FunctionDef, ast.ClassDef))}


class Interface(unittest.TestCase):
    def test_functions(self):
        for module, functions in FUNCTIONS.items():
            for name, parameters in functions.items():
                self.assertIsInstance(written(module)[name], ast.FunctionDef)
                function = getattr(importlib.import_module(module), name)
                self.assertEqual(list(inspect.signature(function).parameters), parameters)

    def test_classes_and_their_own_methods(self):
        for module, classes in CLASSES.items():
            for name, methods in classes.items():
                self.assertIsInstance(written(module)[name], ast.ClassDef)
                found = vars(getattr(importlib.import_module(module), name))
                for method, parameters in methods.items():
                    self.assertIn(method, found, name)
                    if parameters is not None:
                        told = list(inspect.signature(found[method]).parameters)
                        self.assertEqual(told, ["self"] + parameters, (name, method))

    def test_static_methods(self):
        found = vars(Machine)["is_machine"]
        self.assertIsInstance(found, staticmethod)
        self.assertEqual(list(inspect.signature(found.__func__).parameters), ["kinds", "exponents"])

    def test_attributes(self):
        for thing, attributes in ATTRIBUTES:
            for name, shape in attributes.items():
                self.assertIs(type(vars(thing)[name]), shape, (thing, name))


if __name__ == "__main__":
    unittest.main()
