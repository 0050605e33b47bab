"""The names, arguments and methods of the interface stand where the document lists them."""

import ast
import importlib
import inspect
import os
import unittest

from anypads.books import Book
from anypads.claims import Claim, yes
from anypads.desk import Desk
from anypads.fewest import choices
from anypads.forms import Form
from anypads.machines import Machine
from anypads.parts import Byte, Kind, Overlay, Part, Record, Row, Spread, Use
from anypads.regions import Region, region, span
from anypads.terms import Term, number
from anypads.trees import LEAF, leaves
from anypads.verdicts import Verdict, decide, verdicts
from anypads.zones import Zone
from tests.values import FIELDS

ROOT = os.path.dirname(os.path.dirname(os.path.abspath(__file__)))

FUNCTIONS = {
    "anypads.parts": {"units": ["part"]},
    "anypads.images": {
        "image": ["machine", "part", "value"], "number_at": ["machine", "part", "shown", "path"],
        "patched": ["machine", "part", "shown", "path", "number"],
    },
    "anypads.settle": {
        "rounded": ["zone", "form", "scale"], "form_at_most": ["zone", "one", "other"], "form_same": ["zone", "one", "other"],
        "greatest_form": ["zone", "forms"], "greatest_scale": ["zone", "scales"], "align_scale": ["zone", "part"],
        "size_form": ["zone", "part"], "place_form": ["zone", "part", "path"], "end_form": ["zone", "part", "path"],
        "packed_form": ["zone", "record"],
    },
    "anypads.terms": {
        "number": ["n"], "size": ["name"], "align": ["name"], "packed": ["name"], "place": ["name", "path"],
        "end": ["name", "path"], "units_of": ["book", "term"], "value": ["book", "term", "machine"],
        "form_in": ["book", "term", "zone"],
    },
    "anypads.claims": {
        "at_most": ["one", "other"], "less": ["one", "other"], "same": ["one", "other"], "yes": [], "no": [],
        "no_gap": ["name", "path"], "no_tail": ["name"], "least_order": ["name"], "stands_in": ["one", "other"],
        "plain": ["book", "claim"], "holds": ["book", "claim", "machine"], "told": ["book", "claim", "zone"],
        "reach": ["book", "*claims"],
    },
    "anypads.trees": {
        "ask": ["i", "j", "c", "yes", "no"], "leaves": ["book", "tree"], "leaf_of": ["book", "tree", "machine"],
        "size_of": ["tree"], "depth_of": ["tree"], "grafted": ["tree", "other"], "called": ["tree", "names"],
    },
    "anypads.verdicts": {"decide": ["book", "claim", "given"], "verdicts": ["book", "claims", "given"]},
    "anypads.looker": {
        "is_tree": ["book", "thing"], "shows_always": ["book", "claim", "thing", "given"],
        "shows_breaks": ["book", "claim", "machine", "given"], "shows_least": ["book", "claim", "machine", "thing", "given"],
        "shows_nothing": ["book", "thing", "given"],
    },
    "anypads.regions": {
        "region": ["book", "claim", "given"], "implied": ["book", "i", "j"], "span": ["book", "term"], "sure": ["book", "term"],
        "told_sizes": ["book", "sizes"],
    },
    "anypads.orders": {
        "ordered": ["record", "order"], "waste": ["machine", "record", "order"], "is_valley": ["machine", "record", "order"],
        "least_orders": ["book", "name"], "fewest_orders": ["book", "name"], "shows_orders": ["book", "name", "thing"],
    },
    "anypads.fewest": {
        "choices": ["many"], "fewest": ["book", "claim", "offered"], "fewest_barred": ["book", "offered"],
        "shows_fewest": ["book", "claim", "offered", "thing"], "shows_barred": ["book", "offered", "thing"],
    },
    "anypads.texts": {
        "read_part": ["text", "kinds"], "read_machine": ["text", "kinds"], "read_tree": ["text", "kinds"], "read_term": ["text"],
        "read_claim": ["text"], "tree_text": ["tree"],
    },
}
# The methods of each class, with their parameters behind `self`.
CLASSES = {
    "anypads.errors": {name: {"__init__": list(fields)} for name, fields in FIELDS.items()},
    "anypads.parts": {
        "Part": {
            "__eq__": None, "__mul__": None, "__getitem__": None, "__contains__": None,
            "paths": [], "kinds_in": [], "uses": [], "put": ["path", "other"],
        },
        "Kind": {"__init__": ["name", "times"], "__str__": []},
        "Byte": {"__init__": [], "__str__": []},
        "Use": {"__init__": ["name"], "__str__": []},
        "Group": {"__len__": []},
        "Spread": {},
        "Row": {"__init__": ["part", "n"], "__str__": []},
        "Record": {"__init__": ["fields"], "__add__": None, "__str__": []},
        "Overlay": {"__init__": ["members"], "__or__": None, "__str__": []},
    },
    "anypads.machines": {
        "Machine": {
            "__init__": ["kinds", "exponents"], "__getitem__": None, "__lt__": None, "__le__": None, "__gt__": None,
            "__ge__": None, "__eq__": None, "__and__": None, "__or__": None, "__lshift__": None, "__rshift__": None,
            "__str__": [], "raised": ["scale", "n"], "near": ["r"], "size": ["part"], "align": ["part"],
            "place": ["part", "path"], "end": ["part", "path"],
        },
    },
    "anypads.zones": {
        "Zone": {
            "__init__": ["*kinds"], "__getitem__": None, "__bool__": [], "__contains__": None, "__and__": None, "__iand__": None,
            "__le__": None, "__eq__": None, "__str__": [], "within": ["i", "j", "c"], "sides": ["i", "j", "c"], "least": [],
            "greatest": [], "bounds": [], "ring": [], "is_ring": ["thing"], "walk": ["most"],
        },
    },
    "anypads.forms": {
        "Form": {
            "__init__": ["numbers"], "__getitem__": None, "__add__": None, "__mul__": None, "__rmul__": None, "__eq__": None,
            "__bool__": [], "__abs__": [], "__call__": ["machine"], "__str__": [],
        },
    },
    "anypads.terms": {"Term": {"__add__": None, "__mul__": None, "__rmul__": None, "__eq__": None, "__str__": [], "named": []}},
    "anypads.claims": {
        "Claim": {"__and__": None, "__or__": None, "__invert__": None, "__eq__": None, "__str__": [], "named": []},
    },
    "anypads.books": {
        "Book": {
            "__init__": ["*kinds"], "__setitem__": None, "__getitem__": None, "__contains__": None, "__len__": [], "__iadd__": None,
            "__call__": ["claim"], "__eq__": None, "drop": ["name"], "resolved": ["name"], "set_facts": ["claims"], "trial": [],
            "tried": ["ask"], "twin": [],
        },
    },
    "anypads.verdicts": {
        "Verdict": {"__bool__": [], "__eq__": None, "__repr__": []}, "Always": {"__init__": ["tree"]},
        "Breaks": {"__init__": ["machine", "tree"]}, "Nothing": {"__init__": ["tree"]},
    },
    "anypads.regions": {
        "Region": {
            "__contains__": None, "__bool__": [], "__and__": None, "__or__": None, "__sub__": None, "__iand__": None, "__ior__": None,
            "__isub__": None, "__le__": None, "__eq__": None, "zones": [], "least": [], "count": [], "ascending": ["most"],
        },
        "Span": {"__contains__": None, "__bool__": [], "__eq__": None},
    },
    "anypads.desk": {"Desk": {"__init__": [], "__len__": [], "__call__": ["line"], "say": ["line"], "run": ["*lines"], "book": []}},
}
PROPERTIES = [(Book, "names", False), (Book, "facts", True), (Region, "endless", False)]
# Static methods and class methods.
OFF_CLASSES = [
    (Machine, "is_machine", staticmethod, ["kinds", "exponents"]), (Zone, "of", classmethod, ["cls", "kinds"]),
    (Form, "of", staticmethod, ["scale", "number"]), (Claim, "is_claim", staticmethod, ["thing"]),
    (Machine, "read", classmethod, ["cls", "text", "kinds"]),
]
CLASS_VALUES = [(Part, "DEPTH", 4), (Spread, "AT", 0), (Row, "MOST", 64), (Record, "MOST", 8), (Overlay, "MOST", 4),
                (Machine, "MOST", 1000), (Zone, "MOST", 2000), (Term, "MOST", 64), (Verdict, "WORDS", ("always", "breaks", "nothing"))]
GENERATORS = [Part.paths, Zone.bounds, Zone.walk, leaves, verdicts, Region.ascending, choices]
BOOK = Book(Kind("i"))
ATTRIBUTES = [
    (Kind("i"), {"name": str, "times": int, "depth": int}),
    (Byte(), {"depth": int}),
    (Use("p"), {"name": str, "depth": int}),
    (Row(Byte(), 2), {"part": Byte, "n": int, "depth": int}),
    (Record([("a", Byte())]), {"fields": tuple, "depth": int}),
    (Overlay([("a", Byte())]), {"members": tuple, "depth": int}),
    (Machine([Kind("i")], {"i": (1, 0)}), {"kinds": tuple, "scales": tuple}),
    (Zone(Kind("i")), {"kinds": tuple, "scales": tuple}),
    (Zone(Kind("i")).within("byte", "byte", -1), {"kinds": tuple, "scales": tuple}),
    (Form({"byte": 1}), {"scales": tuple}),
    (2 * Form({}) + Form({}), {"scales": tuple}),
    (BOOK, {"kinds": tuple}),
    (decide(BOOK, yes()), {"word": str, "tree": tuple, "machine": type(None)}),
    (decide(BOOK, ~yes()), {"word": str, "tree": tuple, "machine": Machine}),
    (region(BOOK, yes()) & region(BOOK, ~yes()), {"kinds": tuple, "scales": tuple}),
    (span(BOOK, number(1)), {"low": int, "low_machine": Machine, "high": int, "high_machine": Machine}),
    (Desk(), {}),
]


def written(module):
    """The functions and classes that the file of a module defines itself."""
    path = os.path.join(ROOT, *module.split(".")) + ".py"
    with open(path, encoding="utf-8") as file:
        body = ast.parse(file.read()).body
    return {node.name: node for node in body if isinstance(node, (ast.FunctionDef, ast.ClassDef))}


def arguments(function):
    """The names of the parameters, with a star ahead of one that takes all the others."""
    told = inspect.signature(function).parameters.values()
    return [("*" if one.kind is one.VAR_POSITIONAL else "") + one.name for one in told]


class Interface(unittest.TestCase):
    def test_functions(self):
        for module, functions in FUNCTIONS.items():
            for name, parameters in functions.items():
                self.assertIsInstance(written(module)[name], ast.FunctionDef)
                function = getattr(importlib.import_module(module), name)
                self.assertEqual(arguments(function), parameters)

    def test_classes_and_their_own_methods(self):
        for module, classes in CLASSES.items():
            for name, methods in classes.items():
                self.assertIsInstance(written(module)[name], ast.ClassDef)
                found = vars(getattr(importlib.import_module(module), name))
                for method, parameters in methods.items():
                    self.assertIn(method, found, name)
                    if parameters is not None:
                        self.assertEqual(arguments(found[method]), ["self"] + parameters, (name, method))

    def test_static_and_class_methods(self):
        for thing, name, shape, parameters in OFF_CLASSES:
            self.assertIsInstance(vars(thing)[name], shape)
            self.assertEqual(arguments(vars(thing)[name].__func__), parameters)

    def test_properties(self):
        for thing, name, is_set in PROPERTIES:
            told = vars(thing)[name]
            self.assertIsInstance(told, property)
            self.assertIs(told.fset is not None, is_set)

    def test_values(self):
        for thing, name, expected in CLASS_VALUES:
            self.assertEqual(vars(thing)[name], expected)
        self.assertEqual(LEAF, ("leaf",))

    def test_defaults(self):
        self.assertEqual(inspect.signature(Kind).parameters["times"].default, 1)
        self.assertEqual(inspect.signature(Form.of).parameters["number"].default, 1)
        for module in ("verdicts", "looker", "regions"):
            for name, parameters in FUNCTIONS["anypads." + module].items():
                if "given" in parameters:
                    function = getattr(importlib.import_module("anypads." + module), name)
                    self.assertEqual(inspect.signature(function).parameters["given"].default, ())

    def test_generators(self):
        for function in GENERATORS:
            self.assertTrue(inspect.isgeneratorfunction(function))

    def test_attributes(self):
        for thing, attributes in ATTRIBUTES:
            for name, shape in attributes.items():
                self.assertIs(type(vars(thing)[name]), shape, (thing, name))


if __name__ == "__main__":
    unittest.main()
