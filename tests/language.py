"""Finds what a script can see of LANGUAGE.md in files of the package, often a little narrower than its words.

`findings(files)` takes a dict from file names to their texts, and returns a list of texts `FILE:LINE RULE what`.
"""

import ast
import builtins
import re

from tests.calls import call_findings

PACKAGE = "anypads"
LONGEST = {"row": 120, "function": 40, "file": 399}
LIBRARY = {
    "__future__": "annotations",
    "heapq": "heappush heappop heapify heapreplace heappushpop",
    "math": "gcd lcm isqrt comb perm factorial",
    "itertools": "product combinations permutations chain accumulate pairwise islice zip_longest",
    "collections": "defaultdict",
}
BUILTINS = set(
    "len range enumerate zip min max sum abs sorted reversed int str bool bytes list tuple dict set frozenset isinstance "
    "ord repr any all divmod pow getattr hasattr setattr Exception ValueError TypeError KeyError IndexError LookupError "
    "ZeroDivisionError ArithmeticError OverflowError RuntimeError NotImplementedError AttributeError StopIteration "
    "NotImplemented iter next map property staticmethod classmethod super".split()
)
OPERATIONS = "add sub mul floordiv mod and or xor lshift rshift".split()
REFLECTED = {f"__r{word}__" for word in OPERATIONS}
IN_PLACE = {f"__i{word}__" for word in OPERATIONS + ["pow"]}
ORDERS = {"__lt__", "__le__", "__gt__", "__ge__"}
BINARY = {f"__{word}__" for word in OPERATIONS + ["pow", "eq", "ne", "contains", "getitem"]} | ORDERS | REFLECTED | IN_PLACE
PURE = {f"__{word}__" for word in "repr str len iter neg pos invert abs bool".split()} | BINARY - IN_PLACE
DUNDERS = PURE | IN_PLACE | {"__init__", "__enter__", "__exit__", "__call__", "__setitem__"}
METHODS = set(
    "append clear copy count endswith extend find get index insert isalnum isalpha isdigit islower isspace isupper items "
    "join keys ljust lower lstrip partition pop remove replace reverse rfind rjust rpartition rsplit rstrip setdefault "
    "split splitlines startswith strip update upper values zfill bit_length title capitalize swapcase casefold center "
    "expandtabs removeprefix removesuffix rindex isascii isdecimal isnumeric istitle isidentifier isprintable".split()
)
KEYWORDS = {
    "sorted": {"key", "reverse"}, "min": {"key", "default"}, "max": {"key", "default"}, "sum": {"start"},
    "enumerate": {"start"}, "zip": {"strict"},
}
AT_ONCE = {"zip", "enumerate", "reversed", "map"}
VIEWS = {"items", "keys", "values"}
TAKERS = {"list", "tuple", "dict", "sorted", "sum", "any", "all", "enumerate", "zip", "min", "max"}
NEVER = set("register mro elements open input law version_info with_traceback add_note".split())
SELDOM = set(
    "attrgetter breakpoint builtins compile copyright credits delattr dir eval exec exit gc globals help id importlib "
    "license locals methodcaller os quit type vars sys __name__".split()
)
WORDS = set(
    "type typing typing_extensions enum Enum IntEnum StrEnum Flag IntFlag Generic Protocol ABC ABCMeta namedtuple "
    "NamedTuple TypedDict TYPE_CHECKING abstractmethod".split()
)
INSIDE = ("dataclass", "overload", "contextmanager")
FRAMES = re.compile(r"f_(back|code|globals|locals|builtins|lineno|trace\w*|lasti)|(tb|co|gi|cr|ag)_\w+")
STARTS = ("_wall", "_pe_", "_dcw_", "_enum_", "_cm_", "_twin_re_", "_lay_", "_law_", "_stub_", "_sre", "_WallAttr")
COLD = re.compile(r"_(cold|tuplegetter|outside|record|written_out|member_names)[\d_]*")
ATTRIBUTES = set(
    "items keys values pop update append clear extend insert remove reverse setdefault sort args encode decode hex fromhex "
    "format format_map mro as_integer_ratio bit_count conjugate from_bytes is_integer to_bytes".split()
)
FILES = re.compile(r"law_.*|tests?|testing|test_.*|site|conftest|sitecustomize|usercustomize")
CAUGHT = {"KeyError", "ZeroDivisionError", "StopIteration"}
CHANGES = {"append", "clear", "extend", "insert", "pop", "remove", "reverse", "setdefault", "update"}
STATEMENTS = (
    ast.Assign, ast.If, ast.While, ast.For, ast.Return, ast.Break, ast.Continue, ast.Pass, ast.Raise, ast.Assert,
    ast.Delete, ast.Nonlocal, ast.Match, ast.With, ast.Try, ast.Expr, ast.FunctionDef, ast.ClassDef, ast.ImportFrom,
)


def findings(files):
    """All findings in the files of a package."""
    found = [finding for name, text in files.items() for finding in row_findings(name, text)]
    trees = {}
    for name, text in files.items():
        try:
            trees[name] = ast.parse(text)
        except SyntaxError as error:
            found.append(f"{name}:{error.lineno} L6 syntax")
    package = Package(trees)
    for name, tree in trees.items():
        found += Look(name, tree, package).found
    return found + package.found + call_findings(trees)


def row_findings(name, text):
    """What the name and the rows of a file show."""
    found = []
    word = name[:-3]
    if not re.fullmatch(r"[a-z_][a-z0-9_]*\.py", name):
        found.append(f"{name}:0 L1 name of the file")
    if FILES.fullmatch(word) or word != "__init__" and hasattr(builtins, word) or word in NEVER | SELDOM:
        found.append(f"{name}:0 L14 name of the file")
    rows = text.splitlines()
    if len(rows) > LONGEST["file"]:
        found.append(f"{name}:0 L10 rows of the file")
    for line, row in enumerate(rows, 1):
        if len(row) > LONGEST["row"] or "\t" in row:
            found.append(f"{name}:{line} L10 row")
        if not re.fullmatch("[ -~]*", row):
            found.append(f"{name}:{line} L14 character")
        if "_wall" in row or "_WallAttr" in row:
            found.append(f"{name}:{line} L12 word")
        if "(type)" in row or "Meta" in row or "metaclass=" in row:
            found.append(f"{name}:{line} L17 word")
        if re.search(r"\\[^nt'\"\\]", row.replace("\\\\", "")):
            found.append(f"{name}:{line} L27 escape")
    return found


class Package:
    """What all files together show: classes, methods, attributes, generators and imports."""

    def __init__(self, trees):
        self.found = []
        self.defined = {name: defined_in(tree) for name, tree in trees.items()}
        self.reads = {name: read_by(tree) for name, tree in trees.items()}
        self.classes, self.places, self.methods, self.attributes, self.values = {}, {}, {}, {}, {}
        self.properties, self.setters = set(), set()
        for name, tree in trees.items():
            for node in [node for node in ast.walk(tree) if isinstance(node, ast.ClassDef)]:
                self.add(name, node)
        self.every_method = {method for methods in self.methods.values() for method in methods}
        self.every_attribute = {name for names in self.attributes.values() for name in names}
        self.every_value = {name for names in self.values.values() for name in names}
        self.generators = {node.name for tree in trees.values() for node in ast.walk(tree) if yields(node)}
        for word in self.classes:
            self.look_at_class(word)
        for name in trees:
            if name in self.reached(name):
                self.found.append(f"{name}:0 L16 imports in a ring")
        self.look_at_generators(trees)

    def add(self, name, node):
        self.classes[node.name] = [base.id for base in node.bases if isinstance(base, ast.Name)]
        self.places[node.name] = f"{name}:{node.lineno}"
        functions = [item for item in node.body if isinstance(item, ast.FunctionDef)]
        # A property and its setter are one method.
        self.methods[node.name] = [item.name for item in functions if f"{item.name}.setter" not in decorators(item)]
        self.properties |= {item.name for item in functions if "property" in decorators(item)}
        self.setters |= {item.name for item in functions if f"{item.name}.setter" in decorators(item)}
        self.values[node.name] = [
            target.id for item in node.body if isinstance(item, ast.Assign) for target in item.targets if isinstance(target, ast.Name)
        ]
        self.attributes[node.name] = {
            inner.attr for inner in ast.walk(node) if isinstance(inner, ast.Attribute) and isinstance(inner.ctx, ast.Store)
        }

    def family(self, word):
        """A class and those below which it stands."""
        return {word}.union(*[self.family(base) for base in self.classes.get(word, [])])

    def look_at_class(self, word):
        family = [other for other in self.family(word) if other in self.classes]
        methods = {method for other in family for method in self.methods[other]}
        related = len(family) > 1 or any(word in bases for bases in self.classes.values())
        told = {
            "L18 a method and an attribute": any(self.attributes[other] & methods for other in family),
            "L5 a class value that is an attribute or a method": bool(set(self.values[word]) & (self.every_attribute | self.every_method)),
            "L18 a method twice": len(self.methods[word]) != len(set(self.methods[word])),
            "L5 __getitem__ without __iter__": "__getitem__" in methods and "__iter__" not in methods,
            "L6 __enter__ and __exit__": ("__enter__" in methods) != ("__exit__" in methods),
            "L5 property that is an attribute": bool((self.properties - self.setters) & self.attributes[word]),
            "L5 reflected in a family": related and bool(methods & REFLECTED),
            "L5 orders in a family": related and ({"__lt__", "__gt__"} <= methods or {"__le__", "__ge__"} <= methods),
        }
        self.found += [f"{self.places[word]} {what}" for what, wrong in told.items() if wrong]

    def reached(self, name):
        """The files that a file reads, and those that these read."""
        seen, rest = set(), list(self.reads[name])
        while rest:
            other = rest.pop()
            if other not in seen:
                seen.add(other)
                rest += self.reads.get(other, [])
        return seen

    def look_at_generators(self, trees):
        functions = [
            (name, node) for name, tree in trees.items() for node in ast.walk(tree) if isinstance(node, ast.FunctionDef)
        ]
        words = [node.name for _, node in functions]
        for name, node in functions:
            wrong = words.count(node.name) > 1 or node.name.startswith("__") or node.name in METHODS
            if yields(node) and wrong:
                self.found.append(f"{name}:{node.lineno} L23 name of a generator")


def decorators(node):
    """The texts of what stands over a function."""
    return [ast.unparse(decorator) for decorator in node.decorator_list]


def yields(node):
    """Whether a node is a generator."""
    if not isinstance(node, ast.FunctionDef):
        return False
    return any(isinstance(inner, (ast.Yield, ast.YieldFrom)) for inner in ast.walk(node))


def defined_in(tree):
    """The names that a file binds at module level, without imports."""
    found = [node.name for node in tree.body if isinstance(node, (ast.FunctionDef, ast.ClassDef))]
    for node in tree.body:
        if isinstance(node, ast.Assign):
            found += [target.id for target in node.targets if isinstance(target, ast.Name)]
    return found


def read_by(tree):
    """The names of the files of the package that a file imports from."""
    modules = [node.module or "" for node in tree.body if isinstance(node, ast.ImportFrom)]
    return [module.split(".")[1] + ".py" for module in modules if module.startswith(PACKAGE + ".")]


class Look:
    """Goes through the tree of one file; a method `at_WORD` looks at each node of the class WORD."""

    def __init__(self, name, tree, package):
        self.name, self.package, self.found = name, package, []
        self.parents = {child: node for node in ast.walk(tree) for child in ast.iter_child_nodes(node)}
        self.docstrings = {doc for node in ast.walk(tree) for doc in docstring_of(node)}
        self.decorated = {node for node in ast.walk(tree) if isinstance(node, ast.FunctionDef) and node.decorator_list}
        self.imports = [alias.name for node in tree.body if isinstance(node, ast.ImportFrom) for alias in node.names]
        self.taken = set(self.imports) | {word for word in package.defined[name] if word in package.classes}
        for node in ast.walk(tree):
            if isinstance(node, ast.stmt) and not isinstance(node, STATEMENTS):
                self.say(node, f"L6 {type(node).__name__}")
            for word in words_of(node):
                self.look_at_word(node, word)
            getattr(self, "at_" + type(node).__name__, lambda node: None)(node)

    def say(self, node, what):
        self.found.append(f"{self.name}:{getattr(node, 'lineno', 0)} {what}")

    def say_if(self, wrong, node, what):
        if wrong:
            self.say(node, what)

    def look_at_word(self, node, word):
        bad = not word.isascii() or word.startswith(STARTS) or COLD.fullmatch(word)
        own = isinstance(node, (ast.FunctionDef, ast.Attribute)) and (word in DUNDERS or word in ("__class__", "__name__"))
        self.say_if(bad or word.startswith("__") and not own, node, f"L12 {word}")
        barred = word in NEVER | WORDS or FRAMES.fullmatch(word) or any(part in word for part in INSIDE)
        self.say_if(barred or word in SELDOM and not isinstance(node, ast.Attribute), node, f"L17 {word}")
        in_class = isinstance(self.parents.get(node), ast.ClassDef)
        if binds(node) and hasattr(builtins, word):
            allowed = in_class and isinstance(node, ast.FunctionDef) and word not in BUILTINS
            self.say_if(not allowed, node, f"L15 {word}")
        self.say_if(binds(node) and isinstance(node, (ast.arg, ast.Name)) and word in self.taken, node, f"L15 {word}")

    # Files.

    def at_Module(self, node):
        bound = self.package.defined[self.name] + self.imports
        self.say_if(len(bound) != len(set(bound)), node, "L15 bound twice")
        rest = [item for item in node.body if not (isinstance(item, ast.Expr) and item.value in self.docstrings)]
        while rest and isinstance(rest[0], ast.ImportFrom):
            rest.pop(0)
        for item in rest:
            self.say_if(isinstance(item, ast.ImportFrom), item, "L2 place of the import")
            self.say_if(not is_top(item), item, "L3 statement at module level")

    def at_Import(self, node):
        self.say(node, "L2 form of the import")

    def at_ImportFrom(self, node):
        for alias in node.names:
            own = (node.module or "").startswith(PACKAGE + ".")
            self.say_if(node.level or alias.asname or alias.name == "*", node, "L2 form of the import")
            if own:
                there = self.package.defined.get(node.module.split(".", 1)[1] + ".py", [])
                self.say_if(alias.name not in there, node, f"L16 {alias.name} is not defined there")
            else:
                self.say_if(alias.name not in LIBRARY.get(node.module, "").split(), node, "L2 import from outside")

    # Classes and functions.

    def at_ClassDef(self, node):
        self.say_if(node.decorator_list or node.keywords, node, "L5 decorator of a class")
        self.say_if(not isinstance(self.parents[node], ast.Module), node, "L15 class in a function")
        for item in node.body:
            plain = isinstance(item, ast.FunctionDef) or isinstance(item, ast.Expr) and item.value in self.docstrings
            self.say_if(not plain and not is_value(item), item, "L5 statement in a class")

    def at_FunctionDef(self, node):
        self.say_if(node.end_lineno - node.lineno >= LONGEST["function"], node, "L10 lines of the function")
        for decorator in node.decorator_list:
            allowed = ("property", "staticmethod", "classmethod", node.name + ".setter")
            fine = isinstance(self.parents[node], ast.ClassDef) and ast.unparse(decorator) in allowed
            self.say_if(not fine, decorator, "L4 decorator")
        self.say_if(node.returns or any(told.annotation for told in parameters(node)), node, "L21 annotation")
        if node.name.startswith("__"):
            self.look_at_dunder(node)

    def look_at_dunder(self, node):
        fine = isinstance(self.parents[node], ast.ClassDef) and node.name in DUNDERS
        self.say_if(not fine, node, f"L5 {node.name}")
        wrong = len(parameters(node)) != 2 or node.args.defaults or node.args.vararg
        self.say_if(node.name in BINARY and wrong, node, f"L5 parameters of {node.name}")
        returns = [inner for inner in ast.walk(node) if isinstance(inner, ast.Return)]
        self.say_if(node.name == "__init__" and returns, node, "L28 return")
        if node.name in ("__len__", "__str__", "__repr__"):
            wrong = not isinstance(node.body[-1], ast.Return) or not all(is_told(node.name, told.value) for told in returns)
            self.say_if(wrong, node, f"L28 return of {node.name}")
            self.say_if(any(isinstance(inner, ast.Add) for inner in ast.walk(node)), node, f"L5 sum in {node.name}")
        if node.name == "__bool__":
            self.say_if(not is_truth(node.body[-1]), node, "L5 return of __bool__")
        if node.name == "__exit__":
            self.look_at_exit(node)
        if node.name == "__iter__":
            self.say_if(not isinstance(node.body[-1], ast.Raise) or len(node.body) != 1, node, "L5 __iter__")
        if node.name in PURE:
            for inner in ast.walk(node):
                stored = isinstance(inner, ast.Attribute) and isinstance(inner.ctx, ast.Store)
                self.say_if(stored, inner, f"L5 {node.name} assigns an attribute")

    # Statements.

    def at_Raise(self, node):
        fine = node.exc is None or isinstance(node.exc, ast.Call) and isinstance(node.exc.func, ast.Name)
        self.say_if(not fine, node, "L19 raise")

    def at_ExceptHandler(self, node):
        for shape in node.type.elts if isinstance(node.type, ast.Tuple) else [node.type]:
            fine = isinstance(shape, ast.Name) and (shape.id in CAUGHT or shape.id not in BUILTINS)
            self.say_if(not fine, node, "L19 what is caught")

    def at_Expr(self, node):
        fine = isinstance(node.value, (ast.Call, ast.Yield, ast.YieldFrom)) or node.value in self.docstrings
        self.say_if(not fine, node, "L6 expression on its own")

    def at_For(self, node):
        """The name that a loop goes over, if it is one, is not changed in it."""
        if not isinstance(node.iter, ast.Name):
            return
        for inner in [inner for item in node.body for inner in ast.walk(item)]:
            called = isinstance(inner, ast.Call) and isinstance(inner.func, ast.Attribute) and inner.func.attr in CHANGES
            stored = isinstance(inner, ast.Subscript) and not isinstance(inner.ctx, ast.Load)
            thing = inner.func.value if called else inner.value if stored else None
            changed = isinstance(thing, ast.Name) and thing.id == node.iter.id
            self.say_if(changed, inner, f"L23 {node.iter.id} is changed in its loop")

    # Expressions.

    def at_Name(self, node):
        loaded = isinstance(node.ctx, ast.Load)
        self.say_if(loaded and hasattr(builtins, node.id) and node.id not in BUILTINS, node, f"L8 {node.id}")

    def at_Attribute(self, node):
        self.say_if(isinstance(node.ctx, ast.Store) and node.attr in ATTRIBUTES, node, f"L26 {node.attr}")
        package = self.package
        parent = self.parents[node]
        known = package.every_attribute | package.every_value | package.properties
        if isinstance(parent, ast.Call) and parent.func is node or node.attr == "setter" and parent in self.decorated:
            known = known | METHODS | package.every_method | {"setter"}
        unknown = isinstance(node.ctx, ast.Load) and not node.attr.startswith("__") and node.attr not in known
        self.say_if(unknown, node, f"L18 {node.attr} is no attribute")
        named = node.attr.startswith("__") and node.attr not in ("__init__", "__class__", "__name__")
        self.say_if(named, node, f"L5 {node.attr} by its name")
        if node.attr == "__init__":
            self.look_at_base_init(node)

    def look_at_base_init(self, node):
        """`X.__init__(self, ..)` is a call, directly in an `__init__`, of the first base in the class's own line."""
        call, method = self.parents[node], self.parents[node]
        while not isinstance(method, (ast.FunctionDef, ast.Lambda, ast.Module)):
            method = self.parents[method]
        shape = self.parents.get(method)
        fine = isinstance(shape, ast.ClassDef) and method.name == "__init__"
        fine = fine and [ast.unparse(base) for base in shape.bases[:1]] == [ast.unparse(node.value)]
        fine = fine and isinstance(call, ast.Call) and call.func is node
        fine = fine and [ast.unparse(told) for told in call.args[:1]] == [told.arg for told in method.args.args[:1]]
        self.say_if(not fine, node, "L28 __init__ of what is not the first base in the class line")

    def at_Compare(self, node):
        for op, right in zip(node.ops, node.comparators):
            fine = isinstance(right, ast.Constant) and (right.value is None or isinstance(right.value, bool))
            self.say_if(isinstance(op, (ast.Is, ast.IsNot)) and not fine, node, "L20 is")

    def at_BinOp(self, node):
        self.say_if(isinstance(node.op, (ast.Div, ast.MatMult)), node, "L7 sign")
        small = isinstance(node.right, ast.Constant) and type(node.right.value) is int and 0 <= node.right.value <= 64
        self.say_if(isinstance(node.op, ast.Pow) and not small, node, "L27 exponent")

    def at_GeneratorExp(self, node):
        self.say(node, "L7 generator expression")

    def at_Set(self, node):
        parent = self.parents[node]
        called = isinstance(parent, ast.Call) and isinstance(parent.func, ast.Name) and parent.func.id in ("sorted", "len")
        self.say_if(not called and not isinstance(parent, ast.Compare), node, "L24 set")

    def at_SetComp(self, node):
        self.at_Set(node)

    def at_Starred(self, node):
        off_name = isinstance(node.value, ast.Attribute) and isinstance(node.value.value, ast.Name)
        plain = off_name or isinstance(node.value, (ast.Name, ast.List, ast.Tuple))
        self.say_if(isinstance(self.parents[node], ast.Call) and not plain, node, "L7 what stands behind a star")

    def look_at_generator(self, node, word):
        self.say_if(not self.is_iterated(node), node, f"L23 {word} is not iterated at once")
        plain = all(isinstance(told, (ast.Name, ast.Attribute, ast.Constant, ast.Tuple)) for told in node.args)
        self.say_if(not plain or node.keywords, node, f"L23 what stands beside {word}")

    def at_Call(self, node):
        word = node.func.id if isinstance(node.func, ast.Name) else getattr(node.func, "attr", None)
        if word in self.package.generators:
            self.look_at_generator(node, word)
        if isinstance(node.func, ast.Name):
            self.look_at_call(node, node.func.id)
        elif isinstance(node.func, ast.Attribute):
            word, own = node.func.attr, self.package.every_method
            self.say_if(word not in METHODS and word not in own, node, f"L25 {word}")
            self.say_if(word in METHODS and node.keywords, node, f"L25 keyword of {word}")
            self.say_if(word in VIEWS and not self.is_iterated(node), node, "L23 kept")
        else:
            self.say_if(isinstance(node.func, ast.Constant), node, "L7 literal that is called")

    def look_at_call(self, node, word):
        wrong = word in BUILTINS and any(keyword.arg not in KEYWORDS.get(word, ()) for keyword in node.keywords)
        self.say_if(wrong, node, f"L22 keyword of {word}")
        self.say_if(word in AT_ONCE and not self.is_iterated(node), node, "L23 kept")
        self.say_if(word == "range" and not self.is_ranged(node), node, "L23 range that is passed on")
        if word in ("set", "frozenset"):
            self.at_Set(node)
        if word in ("sorted", "min", "max") and self.package.every_method & ORDERS:
            fine = any(is_plain(told) for told in node.args) if len(node.args) != 1 else is_plain(node.args[0])
            self.say_if(not fine, node, f"L5 {word} of what is not plain")

    def is_iterated(self, node):
        parent = self.parents[node]
        if isinstance(parent, ast.Call):
            return isinstance(parent.func, ast.Name) and parent.func.id in TAKERS
        return isinstance(parent, ast.YieldFrom) or isinstance(parent, (ast.For, ast.comprehension)) and parent.iter is node

    def is_ranged(self, node):
        """Whether a range is iterated at once, measured, searched, turned round, or kept in a variable."""
        parent = self.parents[node]
        if isinstance(parent, ast.Call) and isinstance(parent.func, ast.Name):
            return parent.func.id in TAKERS | {"len", "reversed"}
        return self.is_iterated(node) or isinstance(parent, (ast.Compare, ast.Assign))

    def at_With(self, node):
        for item in node.items:
            held = item.optional_vars
            plain = isinstance(item.context_expr, (ast.Call, ast.Name, ast.Attribute))
            self.say_if(not plain or held is not None and not isinstance(held, ast.Name), node, "L6 with")

    def look_at_exit(self, node):
        """The rows of `__exit__` only give attributes names or attributes, and one name an attribute of `self`."""
        self.say_if([told.arg for told in parameters(node)][1:] != ["kind", "value", "trace"], node, "L6 parameters of __exit__")
        for row in node.body:
            fine = isinstance(row, ast.Pass) or isinstance(row, ast.Expr) and row.value in self.docstrings
            if isinstance(row, ast.Assign) and len(row.targets) == 1:
                fine = isinstance(row.targets[0], (ast.Name, ast.Attribute)) and isinstance(row.value, (ast.Name, ast.Attribute))
            self.say_if(not fine, row, "L6 row of __exit__")

    def at_Try(self, node):
        self.say_if(node.finalbody, node, "L6 finally: not looked at by this script")

    def at_Constant(self, node):
        self.say_if(isinstance(node.value, (float, complex)) or node.value is Ellipsis, node, "L7 value")
        if not isinstance(node.value, str):
            return
        self.say_if("%" in node.value, node, "L27 percent sign")
        self.say_if(isinstance(self.parents[node], ast.FormattedValue), node, "L27 string in braces")
        if node not in self.docstrings:
            words = re.findall(r"\w+", node.value)
            barred = any(word in WORDS - {"type"} or any(part in word for part in INSIDE) for word in words)
            self.say_if(barred, node, "L17 word in a string")
            dunder = node.value.startswith("__") and node.value.endswith("__")
            wrong = dunder or node.value.endswith(("._", ".__")) or any(FRAMES.fullmatch(word) for word in words)
            self.say_if(wrong, node, "L27 string")


def is_literal(node):
    """Whether an expression is a plain value."""
    if isinstance(node, (ast.List, ast.Tuple)):
        return all(map(is_literal, node.elts))
    if isinstance(node, ast.Dict):
        return None not in node.keys and all(map(is_literal, node.keys + node.values))
    if isinstance(node, ast.UnaryOp):
        return isinstance(node.op, ast.USub) and is_literal(node.operand)
    return isinstance(node, ast.Constant)


def is_value(node):
    """Whether a statement gives one name a plain value."""
    if not isinstance(node, ast.Assign):
        return False
    return len(node.targets) == 1 and isinstance(node.targets[0], ast.Name) and is_literal(node.value)


def is_top(node):
    return isinstance(node, (ast.FunctionDef, ast.ClassDef, ast.ImportFrom)) or is_value(node)


def is_plain(node):
    """Whether an expression plainly is a number or a string, or a list of such."""
    if isinstance(node, ast.BinOp):
        return isinstance(node.op, (ast.Add, ast.Sub)) and is_plain(node.left) and is_plain(node.right)
    if isinstance(node, ast.Call):
        return isinstance(node.func, ast.Name) and node.func.id in ("len", "int", "ord", "str", "repr", "range")
    if isinstance(node, ast.List):
        return all(map(is_plain, node.elts))
    if isinstance(node, ast.ListComp):
        return is_plain(node.elt)
    return isinstance(node, (ast.Constant, ast.JoinedStr))


def is_told(name, value):
    """Whether a value may be returned by __len__, __str__ or __repr__."""
    word = value.func.id if isinstance(value, ast.Call) and isinstance(value.func, ast.Name) else None
    if name == "__len__":
        return word == "len" or isinstance(value, ast.Constant) and type(value.value) is int
    if isinstance(value, ast.Call) and isinstance(value.func, ast.Attribute):
        return value.func.attr == "join" and isinstance(value.func.value, ast.Constant)
    text = isinstance(value, ast.Constant) and isinstance(value.value, str)
    return word in ("str", "repr") or text or isinstance(value, ast.JoinedStr)


def is_truth(node):
    """Whether a statement may end __bool__."""
    if not isinstance(node, ast.Return):
        return False
    value = node.value
    if isinstance(value, ast.Call):
        return isinstance(value.func, ast.Name) and value.func.id in ("bool", "isinstance", "any", "all")
    if isinstance(value, ast.Compare):
        return all(isinstance(op, (ast.Is, ast.IsNot, ast.In, ast.NotIn)) for op in value.ops)
    negated = isinstance(value, ast.UnaryOp) and isinstance(value.op, ast.Not)
    return negated or isinstance(value, ast.Constant) and isinstance(value.value, bool)


def docstring_of(node):
    """The list of the docstring of a node, if it has one."""
    if not isinstance(node, (ast.Module, ast.ClassDef, ast.FunctionDef)) or ast.get_docstring(node) is None:
        return []
    return [node.body[0].value]


def parameters(node):
    told = node.args
    return told.posonlyargs + told.args + told.kwonlyargs + [arg for arg in (told.vararg, told.kwarg) if arg]


def binds(node):
    """Whether a node gives its word a meaning."""
    if isinstance(node, ast.Name):
        return isinstance(node.ctx, ast.Store)
    return isinstance(node, (ast.FunctionDef, ast.ClassDef, ast.arg, ast.ExceptHandler))


def words_of(node):
    """The names that a node itself writes."""
    if isinstance(node, ast.alias):
        return [node.name]
    for field in ("id", "attr", "arg", "name"):
        if isinstance(getattr(node, field, None), str):
            return [getattr(node, field)]
    return []
