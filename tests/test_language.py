"""The package keeps to the plain part of the language that it is written in, as far as a look at the code shows it."""

import ast
import builtins
import re
import unittest
from pathlib import Path

PACKAGE = Path(__file__).resolve().parent.parent / "rampworks"
FILES = sorted(PACKAGE.rglob("*.py"))
BUILTINS = {
    "len", "range", "enumerate", "zip", "min", "max", "sum", "abs", "sorted", "reversed", "int", "str", "bool", "list",
    "tuple", "dict", "set", "isinstance", "repr", "any", "all", "divmod", "ValueError", "KeyError", "IndexError",
    "LookupError", "ArithmeticError", "OverflowError"}
METHODS = {
    "append", "extend", "insert", "pop", "get", "items", "keys", "values", "index", "join", "count", "bit_length"}
DOUBLE = {"__init__", "__eq__", "__str__"}
BARRED = {
    "register", "mro", "elements", "open", "input", "law", "version_info", "with_traceback", "add_note", "attrgetter",
    "breakpoint", "builtins", "compile", "copyright", "credits", "delattr", "dir", "eval", "exec", "exit", "gc",
    "getattr", "globals", "hasattr", "help", "id", "importlib", "license", "locals", "methodcaller", "os", "quit",
    "setattr", "super", "type", "vars", "sys", "format", "map", "iter", "next", "property", "staticmethod",
    "classmethod", "args"}
WORDS = (
    "type", "typing", "typing_extensions", "enum", "Enum", "IntEnum", "StrEnum", "Flag", "IntFlag", "Generic",
    "Protocol", "ABC", "ABCMeta", "namedtuple", "NamedTuple", "TypedDict", "TYPE_CHECKING", "abstractmethod")
AT_ONCE = {"zip", "enumerate", "reversed", "range"}
FIRST_OF = {"list", "tuple", "dict", "sorted", "sum", "any", "all", "enumerate", "zip", "min", "max"}
STATEMENTS = (
    ast.Assign, ast.AugAssign, ast.If, ast.While, ast.For, ast.Return, ast.Break, ast.Continue, ast.Pass, ast.Raise,
    ast.Delete, ast.Expr, ast.FunctionDef, ast.ClassDef, ast.ImportFrom)


def parents(tree):
    return {child: node for node in ast.walk(tree) for child in ast.iter_child_nodes(node)}


def functions(tree):
    return [node for node in ast.walk(tree) if isinstance(node, ast.FunctionDef)]


def without_docstrings(tree):
    """All string literals that are no docstrings."""
    heads = {node.body[0].value for node in ast.walk(tree)
             if isinstance(node, (ast.Module, ast.ClassDef, ast.FunctionDef)) and ast.get_docstring(node) is not None}
    return [node for node in ast.walk(tree)
            if isinstance(node, ast.Constant) and isinstance(node.value, str) and node not in heads]


class Language(unittest.TestCase):

    def each(self):
        return [(file, file.read_text(), ast.parse(file.read_text())) for file in FILES]

    def test_files(self):
        self.assertGreater(len(FILES), 10)
        self.assertLessEqual(len(FILES), 100)
        for path in PACKAGE.rglob("*"):
            if "__pycache__" not in path.parts:
                self.assertTrue(path.suffix == ".py" or (path / "__init__.py").is_file(), path)
                self.assertRegex(path.stem, r"^[a-z0-9_]+$")
                self.assertFalse(path.is_file() and path.with_suffix("").is_dir(), path)

    def test_lines(self):
        for file, text, tree in self.each():
            lines = text.split("\n")
            self.assertLessEqual(len(lines) - 1, 399)
            self.assertEqual([line for line in lines if len(line) > 120], [])
            self.assertTrue(all(char == "\n" or " " <= char <= "~" for char in text))
            for node in functions(tree):
                self.assertLessEqual(node.end_lineno - node.lineno + 1, 40, node.name)

    def test_module_level(self):
        for file, text, tree in self.each():
            bound = []
            for at, node in enumerate(tree.body):
                if isinstance(node, ast.Expr):
                    self.assertEqual(at, 0)
                elif isinstance(node, ast.Assign):
                    self.assertEqual(len(node.targets), 1)
                    self.assertIsInstance(eval(ast.unparse(node.value), {}), int)
                    bound.append(node.targets[0].id)
                elif isinstance(node, ast.ImportFrom):
                    bound.extend(alias.name for alias in node.names)
                else:
                    self.assertIsInstance(node, (ast.FunctionDef, ast.ClassDef))
                    bound.append(node.name)
            self.assertEqual(len(bound), len(set(bound)))

    def test_imports(self):
        edges = {}
        for file, text, tree in self.each():
            edges[file] = []
            for node in ast.walk(tree):
                self.assertNotIsInstance(node, ast.Import)
                if isinstance(node, ast.ImportFrom):
                    self.assertIn(node, tree.body)
                    self.assertTrue(all(alias.asname is None and alias.name != "*" for alias in node.names))
                    if node.module == "math":
                        self.assertEqual([alias.name for alias in node.names], ["gcd"])
                        continue
                    self.assertEqual(node.level, 0)
                    source = PACKAGE.parent / (node.module.replace(".", "/") + ".py")
                    edges[file].append(source)
                    kept = ast.parse(source.read_text()).body
                    names = {item.name for item in kept if isinstance(item, (ast.FunctionDef, ast.ClassDef))}
                    names |= {item.targets[0].id for item in kept if isinstance(item, ast.Assign)}
                    self.assertTrue({alias.name for alias in node.names} <= names)
            used = {node.id for node in ast.walk(tree) if isinstance(node, ast.Name)}
            brought = {alias.name for node in tree.body if isinstance(node, ast.ImportFrom) for alias in node.names}
            self.assertEqual(brought - used, set(), file)
        for file in edges:
            reached, left = set(), list(edges[file])
            while left:
                source = left.pop()
                if source not in reached:
                    reached.add(source)
                    left.extend(edges[source])
            self.assertNotIn(file, reached)

    def test_names(self):
        for file, text, tree in self.each():
            own = {alias.name for node in tree.body if isinstance(node, ast.ImportFrom) for alias in node.names}
            own |= {node.name for node in tree.body if isinstance(node, ast.ClassDef)}
            for node in ast.walk(tree):
                bound = None
                if isinstance(node, ast.arg):
                    bound = node.arg
                elif isinstance(node, ast.Name) and not isinstance(node.ctx, ast.Load):
                    bound = node.id
                elif isinstance(node, (ast.FunctionDef, ast.ClassDef)):
                    bound = node.name
                elif isinstance(node, ast.Attribute):
                    self.assertFalse(node.attr.startswith("_"), node.attr)
                if bound is not None:
                    self.assertNotIn(bound, vars(builtins))
                    self.assertNotIn(bound, BARRED)
                    self.assertTrue(bound in DOUBLE or not bound.startswith("__"), bound)
                    if not isinstance(node, ast.ClassDef):
                        self.assertNotIn(bound, own, f"{bound} in line {node.lineno}")
            for word in WORDS:
                for node in without_docstrings(tree):
                    self.assertNotRegex(node.value, rf"\b{word}\b")
                for node in ast.walk(tree):
                    self.assertNotIn(word, (getattr(node, "id", None), getattr(node, "attr", None)))

    def test_builtins(self):
        for file, text, tree in self.each():
            for node in ast.walk(tree):
                if isinstance(node, ast.Name) and node.id in vars(builtins):
                    self.assertIn(node.id, BUILTINS)

    def test_statements(self):
        for file, text, tree in self.each():
            for node in ast.walk(tree):
                if isinstance(node, ast.stmt):
                    self.assertIsInstance(node, STATEMENTS)
                self.assertNotIsInstance(node, (
                    ast.GeneratorExp, ast.NamedExpr, ast.Lambda, ast.Yield, ast.YieldFrom, ast.Await, ast.Div))
                if isinstance(node, ast.Constant):
                    self.assertNotIsInstance(node.value, float)
                if isinstance(node, (ast.FunctionDef, ast.ClassDef)):
                    self.assertEqual(node.decorator_list, [])
                if isinstance(node, ast.Compare):
                    for sign, other in zip(node.ops, node.comparators):
                        if isinstance(sign, (ast.Is, ast.IsNot)):
                            self.assertIsInstance(other, ast.Constant)
                if isinstance(node, ast.Raise):
                    self.assertIsInstance(node.exc, ast.Call)
                if isinstance(node, ast.BinOp) and isinstance(node.op, ast.Pow):
                    self.assertLessEqual(node.right.value, 64)
                if isinstance(node, ast.Assign):
                    self.assertEqual(len(node.targets), 1)

    def test_calls(self):
        methods = {
            item.name for file in FILES for node in ast.parse(file.read_text()).body if isinstance(node, ast.ClassDef)
            for item in node.body if isinstance(item, ast.FunctionDef)}
        for file, text, tree in self.each():
            above = parents(tree)
            for node in ast.walk(tree):
                if not isinstance(node, ast.Call):
                    continue
                if isinstance(node.func, ast.Attribute):
                    self.assertIn(node.func.attr, METHODS | methods)
                    continue
                self.assertIsInstance(node.func, ast.Name)
                name, place = node.func.id, above[node]
                if any(isinstance(passed, ast.Starred) for passed in node.args):
                    self.assertEqual(name, "zip")
                if name in AT_ONCE:
                    looped = isinstance(place, (ast.For, ast.comprehension)) and place.iter is node
                    first = isinstance(place, ast.Call) and place.func.id in FIRST_OF and place.args[0] is node
                    nested = name == "range" and isinstance(place, ast.Call) and place.func.id == "reversed"
                    self.assertTrue(looped or first or nested, f"{name} in line {node.lineno}")
                if name == "set":
                    self.assertIsInstance(place, ast.Call)
                    self.assertIn(place.func.id, ("sorted", "len"))

    def test_strings(self):
        for file, text, tree in self.each():
            for node in without_docstrings(tree):
                self.assertNotIn("%", node.value)
            for node in ast.walk(tree):
                if isinstance(node, (ast.Set, ast.SetComp)):
                    self.fail("a set that is stored")

    def test_loops_change_nothing_that_they_go_over(self):
        changing = {"append", "extend", "insert", "pop"}
        for file, text, tree in self.each():
            for loop in ast.walk(tree):
                if not isinstance(loop, ast.For):
                    continue
                over = {node.id for node in ast.walk(loop.iter) if isinstance(node, ast.Name)}
                if isinstance(loop.iter, ast.Call) and loop.iter.func.id in ("range", "sorted", "reversed"):
                    continue
                for node in (inner for row in loop.body for inner in ast.walk(row)):
                    if isinstance(node, ast.Call) and isinstance(node.func, ast.Attribute):
                        if node.func.attr in changing and isinstance(node.func.value, ast.Name):
                            self.assertNotIn(node.func.value.id, over)
                    if isinstance(node, ast.Subscript) and not isinstance(node.ctx, ast.Load):
                        self.assertNotIn(node.value.id, over, f"line {node.lineno}")

    def test_each_part_says_what_it_does(self):
        for file, text, tree in self.each():
            self.assertTrue(ast.get_docstring(tree))
            for node in ast.walk(tree):
                if isinstance(node, ast.ClassDef) or isinstance(node, ast.FunctionDef) and node.name not in DOUBLE:
                    self.assertTrue(ast.get_docstring(node), node.name)
            self.assertIsNone(re.search(r"\b(TODO|FIXME|XXX)\b", text))
