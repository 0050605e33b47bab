"""Finds what operators and properties of a package may not do, themselves or through what they call (L5, L28).

`call_findings(trees)` takes a dict from file names to syntax trees, and returns a list of texts `FILE:LINE RULE what`.
Calls are followed by their names: a method is looked for in all classes.
"""

import ast

CHANGES = set("append clear extend insert pop remove reverse setdefault update sort add discard".split())
FRESH = {"list", "dict", "set", "sorted"}
# These change what they stand on, or are called as functions are.
FREE = {"__init__", "__enter__", "__exit__", "__call__", "__setitem__"}


def call_findings(trees):
    """All findings about what operators and properties run."""
    package = Calls(trees)
    found = []
    for name, node in package.reached():
        found += [f"{name}:{line} L5 {what}, run by an operator or a property" for line, what in package.wrongs(node)]
    return found


def yields(node):
    """Whether a function is a generator."""
    return any(isinstance(inner, (ast.Yield, ast.YieldFrom)) for inner in ast.walk(node))


def is_pure(node):
    """Whether a method is an operator or a property that changes nothing."""
    told = [ast.unparse(decorator) for decorator in node.decorator_list]
    operator = node.name.startswith("__") and node.name not in FREE and not is_in_place(node.name)
    return operator or "property" in told


def is_in_place(name):
    return name.startswith("__i") and name not in ("__init__", "__iter__", "__invert__")


class Calls:
    """The functions, classes and methods of a package by their names."""

    def __init__(self, trees):
        self.functions, self.methods, self.inits, self.roots, self.bases = {}, {}, {}, [], {}
        for name, tree in trees.items():
            for node in tree.body:
                if isinstance(node, ast.FunctionDef):
                    self.functions.setdefault(node.name, []).append((name, node))
                if isinstance(node, ast.ClassDef):
                    self.add_class(name, node)

    def add_class(self, name, shape):
        self.bases[shape.name] = [base.id for base in shape.bases if isinstance(base, ast.Name)]
        for node in [item for item in shape.body if isinstance(item, ast.FunctionDef)]:
            if node.name == "__init__":
                self.inits[shape.name] = (name, node)
            else:
                self.methods.setdefault(node.name, []).append((name, node))
            if is_pure(node):
                self.roots.append((name, node))

    def init_of(self, word):
        """The list of what is run when a class is called."""
        if word in self.inits:
            return [self.inits[word]]
        return [init for base in self.bases.get(word, []) for init in self.init_of(base)]

    def called_by(self, node):
        """What a function calls."""
        found = []
        for call in [inner for inner in ast.walk(node) if isinstance(inner, ast.Call)]:
            if isinstance(call.func, ast.Name):
                found += self.functions.get(call.func.id, []) + self.init_of(call.func.id)
            elif isinstance(call.func, ast.Attribute) and call.func.attr == "__init__":
                found += self.init_of(getattr(call.func.value, "id", None))
            elif isinstance(call.func, ast.Attribute):
                found += self.methods.get(call.func.attr, [])
        return found

    def reached(self):
        """All that operators and properties run, themselves first."""
        found, rest = [], list(self.roots)
        while rest:
            name, node = rest.pop(0)
            if node not in [other for _, other in found]:
                found.append((name, node))
                rest += self.called_by(node)
        return found

    def wrongs(self, node):
        """Pairs (line, what) for what a function may not do there."""
        if yields(node):
            yield node.lineno, "a generator"
        fresh, made = locals_of(node, self.bases)
        own = {node.args.args[0].arg} if node.name == "__init__" else set()
        for inner in ast.walk(node):
            if isinstance(inner, ast.GeneratorExp):
                yield inner.lineno, "a generator expression"
            stored = not isinstance(getattr(inner, "ctx", ast.Load()), ast.Load)
            if isinstance(inner, ast.Attribute) and stored and name_of(inner.value) not in made | own:
                yield inner.lineno, "an attribute that is assigned"
            if isinstance(inner, ast.Subscript) and stored and name_of(inner.value) not in fresh:
                yield inner.lineno, "an item that is assigned"
            if isinstance(inner, ast.Call) and isinstance(inner.func, ast.Attribute) and inner.func.attr in CHANGES:
                if name_of(inner.func.value) not in fresh:
                    yield inner.lineno, inner.func.attr
            if isinstance(inner, ast.Call) and isinstance(inner.func, ast.Name) and inner.func.id in bound_in(node):
                yield inner.lineno, "a call of what is passed"


def name_of(node):
    return node.id if isinstance(node, ast.Name) else None


def bound_in(node):
    """The names of a function's parameters and of its variables."""
    told = {arg.arg for arg in node.args.args + node.args.kwonlyargs}
    return told | {inner.id for inner in ast.walk(node) if isinstance(inner, ast.Name) and isinstance(inner.ctx, ast.Store)}


def locals_of(node, classes):
    """The variables that only ever are a new list, dict or set, and those that only ever are a new object."""
    values = {}
    for inner in ast.walk(node):
        if isinstance(inner, ast.Name) and isinstance(inner.ctx, ast.Store):
            values.setdefault(inner.id, [])
    plain = [inner for inner in ast.walk(node) if isinstance(inner, ast.Assign)]
    for inner in [inner for inner in plain if all(isinstance(target, ast.Name) for target in inner.targets)]:
        for target in inner.targets:
            values[target.id].append(inner.value)
    stores = [inner.id for inner in ast.walk(node) if isinstance(inner, ast.Name) and isinstance(inner.ctx, ast.Store)]
    values = {name: told for name, told in values.items() if len(told) == stores.count(name)}
    values = {name: told for name, told in values.items() if name not in {arg.arg for arg in node.args.args}}
    fresh = {name for name, told in values.items() if all(map(is_fresh, told))}
    made = {name for name, told in values.items() if all(word_of(value) in classes for value in told)}
    return fresh, made


def word_of(value):
    return name_of(value.func) if isinstance(value, ast.Call) else None


def is_fresh(value):
    """Whether an expression is a new list, dict or set."""
    if isinstance(value, ast.BinOp):
        return isinstance(value.op, ast.Mult) and is_fresh(value.left) or is_fresh(value.left) and is_fresh(value.right)
    if isinstance(value, ast.Subscript):
        return isinstance(value.slice, ast.Slice)
    return isinstance(value, (ast.List, ast.Dict, ast.ListComp, ast.DictComp)) or word_of(value) in FRESH
