"""The package keeps to the plain part of the language that it is written in, as far as a look at the code shows it."""

import ast
import builtins
import re
import unittest
from pathlib import Path

PACKAGE = Path(__file__).resolve().parent.parent / "rampworks"
FILES = sorted(PACKAGE.rglob("*.py"))
BUILTINS = {
    "len", "range", "enumerate", "zip", "min", "max", "sum", "abs", "sorted", "reversed", "int", "str", "bool", "list",
    "tuple", "dict", "set", "isinstance", "repr", "any", "all", "divmod", "ValueError", "KeyError", "IndexError",
    "LookupError", "ArithmeticError", "OverflowError"}
METHODS = {
    "append", "extend", "insert", "pop", "get", "items", "keys", "values", "index", "join", "count", "bit_length",
    "add", "reverse", "remove", "setdefault", "startswith", "split", "replace", "isdigit", "isascii", "isprintable"}
DOUBLE = {"__init__", "__eq__", "__str__", "__len__", "__contains__"}
BARRED = {
    "register", "mro", "elements", "open", "input", "law", "version_info", "with_traceback", "add_note", "attrgetter",
    "breakpoint", "builtins", "compile", "copyright", "credits", "delattr", "dir", "eval", "exec", "exit", "gc",
    "getattr", "globals", "hasattr", "help", "id", "importlib", "license", "locals", "methodcaller", "os", "quit",
    "setattr", "super", "type", "vars", "sys", "format", "map", "iter", "next", "property", "staticmethod",
    "classmethod", "args"}
WORDS = (
    "type", "typing", "typing_extensions", "enum", "Enum", "IntEnum", "StrEnum", "Flag", "IntFlag", "Generic",
    "Protocol", "ABC", "ABCMeta", "namedtuple", "NamedTuple", "TypedDict", "TYPE_CHECKING", "abstractmethod")
AT_ONCE = {"zip", "enumerate", "reversed", "range"}
KEYWORDS = {("sorted", "key"), ("sorted", "reverse"), ("min", "key"), ("max", "key"), ("min", "default"),
            ("max", "default"), ("sum", "start"), ("enumerate", "start")}
FIRST_OF = {"list", "tuple", "dict", "sorted", "sum", "any", "all", "enumerate", "zip", "min", "max"}
STATEMENTS = (
    ast.Assign, ast.AugAssign, ast.If, ast.While, ast.For, ast.Return, ast.Break, ast.Continue, ast.Pass, ast.Raise,
    ast.Delete, ast.Expr, ast.FunctionDef, ast.ClassDef, ast.ImportFrom)


def parents(tree):
    return {child: node for node in ast.walk(tree) for child in ast.iter_child_nodes(node)}


def functions(tree):
    return [node for node in ast.walk(tree) if isinstance(node, ast.FunctionDef)]


def without_docstrings(tree):
    """All string literals that are no docstrings."""
    heads = {node.body[0].value for node in ast.walk(tree)
             if isinstance(node, (ast.Module, ast.ClassDef, ast.FunctionDef)) and ast.get_docstring(node) is not None}
    return [node for node in ast.walk(tree)
            if isinstance(node, ast.Constant) and isinstance(node.value, str) and node not in heads]


class Language(unittest.TestCase):

    def each(self):
        return [(file, file.read_text(), ast.parse(file.read_text())) for file in FILES]

    def test_files(self):
        self.assertGreater(len(FILES), 10)
        self.assertLessEqual(len(FILES), 100)
        for path in PACKAGE.rglob("*"):
            if "__pycache__" not in path.parts:
                self.assertTrue(path.suffix == ".py" or (path / "__init__.py").is_file(), path)
                self.assertRegex(path.stem, r"^[a-z0-9_]+$")
                self.assertFalse(path.is_file() and path.with_suffix("").is_dir(), path)

    def test_lines(self):
        for file, text, tree in self.each():
            lines = text.split("\n")
            self.assertLessEqual(len(lines) - 1, 399)
            self.assertEqual([line for line in lines if len(line) > 120], [])
            self.assertTrue(all(char == "\n" or " " <= char <= "~" for char in text))
            for node in functions(tree):
                self.assertLessEqual(node.end_lineno - node.lineno + 1, 40, node.name)

    def test_module_level(self):
        for file, text, tree in self.each():
            bound = []
            for at, node in enumerate(tree.body):
                if isinstance(node, ast.Expr):
                    self.assertEqual(at, 0)
                elif isinstance(node, ast.Assign):
                    self.assertEqual(len(node.targets), 1)
                    # Functions that stand in a table are defined above it, in the same file.
                    above = {item.name: 0 for item in tree.body[:at] if isinstance(item, ast.FunctionDef)}
                    self.assertIsInstance(eval(ast.unparse(node.value), {}, above), (int, str, tuple, dict))
                    bound.append(node.targets[0].id)
                elif isinstance(node, ast.ImportFrom):
                    bound.extend(alias.name for alias in node.names)
                else:
                    self.assertIsInstance(node, (ast.FunctionDef, ast.ClassDef))
                    bound.append(node.name)
            self.assertEqual(len(bound), len(set(bound)))

    def test_imports(self):
        edges = {}
        for file, text, tree in self.each():
            edges[file] = []
            for node in ast.walk(tree):
                self.assertNotIsInstance(node, ast.Import)
                if isinstance(node, ast.ImportFrom):
                    self.assertIn(node, tree.body)
                    self.assertTrue(all(alias.asname is None and alias.name != "*" for alias in node.names))
                    if node.module == "math":
                        self.assertLessEqual({alias.name for alias in node.names}, {"gcd", "comb", "factorial"})
                        continue
                    self.assertEqual(node.level, 0)
                    source = PACKAGE.parent / (node.module.replace(".", "/") + ".py")
                    edges[file].append(source)
                    kept = ast.parse(source.read_text()).body
                    names = {item.name for item in kept if isinstance(item, (ast.FunctionDef, ast.ClassDef))}
                    names |= {item.targets[0].id for item in kept if isinstance(item, ast.Assign)}
                    self.assertTrue({alias.name for alias in node.names} <= names)
            used = {node.id for node in ast.walk(tree) if isinstance(node, ast.Name)}
            brought = {alias.name for node in tree.body if isinstance(node, ast.ImportFrom) for alias in node.names}
            self.assertEqual(brought - used, set(), file)
        for file in edges:
            reached, left = set(), list(edges[file])
            while left:
                source = left.pop()
                if source not in reached:
                    reached.add(source)
                    left.extend(edges[source])
            self.assertNotIn(file, reached)

    def test_names(self):
        for file, text, tree in self.each():
            own = {alias.name for node in tree.body if isinstance(node, ast.ImportFrom) for alias in node.names}
            own |= {node.name for node in tree.body if isinstance(node, ast.ClassDef)}
            for node in ast.walk(tree):
                bound = None
                if isinstance(node, ast.arg):
                    bound = node.arg
                elif isinstance(node, ast.Name) and not isinstance(node.ctx, ast.Load):
                    bound = node.id
                elif isinstance(node, (ast.FunctionDef, ast.ClassDef)):
                    bound = node.name
                elif isinstance(node, ast.Attribute):
                    self.assertFalse(node.attr.startswith("_"), node.attr)
                if bound is not None:
                    self.assertNotIn(bound, vars(builtins))
                    self.assertNotIn(bound, BARRED)
                    self.assertTrue(bound in DOUBLE or not bound.startswith("__"), bound)
                    if not isinstance(node, ast.ClassDef):
                        self.assertNotIn(bound, own, f"{bound} in line {node.lineno}")
            for word in WORDS:
                for node in without_docstrings(tree):
                    self.assertNotRegex(node.value, rf"\b{word}\b")
                for node in ast.walk(tree):
                    self.assertNotIn(word, (getattr(node, "id", None), getattr(node, "attr", None)))

    def test_builtins(self):
        for file, text, tree in self.each():
            above = [item for node in ast.walk(tree) if isinstance(node, ast.FunctionDef) for item in node.decorator_list]
            for node in ast.walk(tree):
                if isinstance(node, ast.Name) and node.id in vars(builtins) and node not in above:
                    self.assertIn(node.id, BUILTINS)

    def test_statements(self):
        for file, text, tree in self.each():
            for node in ast.walk(tree):
                if isinstance(node, ast.stmt):
                    self.assertIsInstance(node, STATEMENTS)
                self.assertNotIsInstance(node, (
                    ast.GeneratorExp, ast.NamedExpr, ast.Lambda, ast.Yield, ast.YieldFrom, ast.Await, ast.Div))
                if isinstance(node, ast.Constant):
                    self.assertNotIsInstance(node.value, float)
                if isinstance(node, ast.ClassDef):
                    self.assertEqual(node.decorator_list, [])
                    for item in node.body:
                        if isinstance(item, ast.FunctionDef) and item.decorator_list:
                            self.assertEqual([above.id for above in item.decorator_list], ["property"])
                            self.assertEqual(len(item.args.args), 1)
                elif isinstance(node, ast.FunctionDef) and node in tree.body:
                    self.assertEqual(node.decorator_list, [])
                if isinstance(node, ast.Compare):
                    for sign, other in zip(node.ops, node.comparators):
                        if isinstance(sign, (ast.Is, ast.IsNot)):
                            self.assertIsInstance(other, ast.Constant)
                if isinstance(node, ast.Raise):
                    self.assertIsInstance(node.exc, ast.Call)
                if isinstance(node, ast.BinOp) and isinstance(node.op, ast.Pow):
                    self.assertLessEqual(node.right.value, 64)
                if isinstance(node, ast.Assign):
                    self.assertEqual(len(node.targets), 1)

    def test_calls(self):
        methods = {
            item.name for file in FILES for node in ast.parse(file.read_text()).body if isinstance(node, ast.ClassDef)
            for item in node.body if isinstance(item, ast.FunctionDef)}
        for file, text, tree in self.each():
            above = parents(tree)
            for node in ast.walk(tree):
                if not isinstance(node, ast.Call):
                    continue
                if isinstance(node.func, ast.Attribute):
                    self.assertIn(node.func.attr, METHODS | methods)
                    self.assertEqual(node.keywords, [])
                    continue
                self.assertIsInstance(node.func, ast.Name)
                name, place = node.func.id, above[node]
                where = f"{name} in line {node.lineno} of {file.name}"
                for at, passed in enumerate(node.args):
                    if isinstance(passed, ast.Starred):
                        self.assertEqual(name, "zip", where)
                        self.assertIsInstance(passed.value, (ast.Name, ast.Attribute), where)
                for keyword in node.keywords:
                    if name in BUILTINS:
                        self.assertIn((name, keyword.arg), KEYWORDS, where)
                        if keyword.arg == "reverse":
                            self.assertIsInstance(keyword.value, ast.Constant)
                    self.assertFalse(name in ("min", "max") and keyword.arg == "default" and len(node.args) > 1)
                if name in AT_ONCE:
                    self.assertTrue(self.is_at_once(node, place), where)
                if name == "set":
                    self.assertTrue(self.is_set_in_place(node, place), where)
                if name == "isinstance":
                    self.assertIsInstance(node.args[1], ast.Name)

    def is_at_once(self, node, place):
        """Whether a range and the like is iterated where it stands, or kept in a variable of its own."""
        if isinstance(place, (ast.For, ast.comprehension)):
            return place.iter is node
        if isinstance(place, ast.Call) and isinstance(place.func, ast.Name) and place.args and place.args[0] is node:
            name = place.func.id
            return (name in FIRST_OF and not (name in ("min", "max") and len(place.args) > 1)
                    or name == "reversed" and node.func.id == "range")
        is_range = node.func.id == "range"
        if isinstance(place, ast.Compare):
            return is_range and isinstance(place.ops[0], (ast.In, ast.NotIn)) and place.comparators[0] is node
        return is_range and isinstance(place, ast.Assign) and isinstance(place.targets[0], ast.Name)

    def is_set_in_place(self, node, place):
        if isinstance(place, ast.Call) and isinstance(place.func, ast.Name) and place.func.id in ("sorted", "len"):
            return not place.keywords
        return isinstance(place, ast.Assign) and isinstance(place.targets[0], ast.Name)

    def test_kept_ranges_and_sets_are_assigned_once(self):
        for file, text, tree in self.each():
            for function in functions(tree):
                bound = [node.id for node in ast.walk(function)
                         if isinstance(node, ast.Name) and isinstance(node.ctx, ast.Store)]
                bound += [node.arg for node in ast.walk(function) if isinstance(node, ast.arg)]
                above = parents(function)
                for node in ast.walk(function):
                    if not isinstance(node, ast.Assign) or not isinstance(node.value, ast.Call):
                        continue
                    if not isinstance(node.value.func, ast.Name) or node.value.func.id not in ("range", "set"):
                        continue
                    name = node.targets[0].id
                    self.assertEqual(bound.count(name), 1, f"{name} in {file.name}")
                    for use in ast.walk(function):
                        if isinstance(use, ast.Name) and use.id == name and isinstance(use.ctx, ast.Load):
                            judge = self.is_range_used if node.value.func.id == "range" else self.is_set_used
                            self.assertTrue(judge(use, above[use]), f"{name} in line {use.lineno} of {file.name}")

    def is_range_used(self, use, place):
        if isinstance(place, (ast.For, ast.comprehension)):
            return place.iter is use
        if isinstance(place, ast.Call):
            return isinstance(place.func, ast.Name) and place.func.id in FIRST_OF | {"len", "reversed"}
        return isinstance(place, ast.Compare) or isinstance(place, ast.Subscript)

    def is_set_used(self, use, place):
        if isinstance(place, ast.Attribute):
            return place.attr in ("add", "discard")
        if isinstance(place, ast.Call):
            return isinstance(place.func, ast.Name) and place.func.id in ("len", "sorted")
        return isinstance(place, ast.Compare) and place.left is not use

    def test_views_are_iterated_at_once(self):
        for file, text, tree in self.each():
            above = parents(tree)
            for node in ast.walk(tree):
                if isinstance(node, ast.Call) and isinstance(node.func, ast.Attribute):
                    if node.func.attr in ("items", "keys", "values"):
                        place = above[node]
                        looped = isinstance(place, (ast.For, ast.comprehension)) and place.iter is node
                        first = isinstance(place, ast.Call) and place.func.id in FIRST_OF and place.args[0] is node
                        self.assertTrue(looped or first, f"line {node.lineno} of {file.name}")

    def test_strings(self):
        for file, text, tree in self.each():
            for node in without_docstrings(tree):
                self.assertNotIn("%", node.value)
                self.assertNotIn("\\", node.value)
                self.assertFalse(node.value.endswith("._"))
            for node in ast.walk(tree):
                if isinstance(node, ast.SetComp):
                    self.fail("a set that is stored")

    def test_loops_change_nothing_that_they_go_over(self):
        changing = {"append", "extend", "insert", "pop", "update", "clear", "remove", "reverse", "setdefault"}
        for file, text, tree in self.each():
            for loop in ast.walk(tree):
                if not isinstance(loop, ast.For):
                    continue
                head = loop.iter
                if isinstance(head, ast.Call) and isinstance(head.func, ast.Name):
                    if head.func.id in ("range", "sorted", "list", "tuple"):
                        continue
                    if head.func.id == "reversed" and isinstance(head.args[0], ast.Call):
                        continue
                over = {node.id for node in ast.walk(head) if isinstance(node, ast.Name)}
                over |= {"." + node.attr for node in ast.walk(head) if isinstance(node, ast.Attribute)}
                for node in (inner for row in loop.body for inner in ast.walk(row)):
                    if isinstance(node, ast.Call) and isinstance(node.func, ast.Attribute):
                        if node.func.attr in changing:
                            self.assertNotIn(self.head_name(node.func.value), over, f"{file.name} {node.lineno}")
                    if isinstance(node, ast.Subscript) and not isinstance(node.ctx, ast.Load):
                        self.assertNotIn(self.head_name(node.value), over, f"{file.name} {node.lineno}")

    def head_name(self, node):
        """The name, or the attribute, of what is changed."""
        while isinstance(node, ast.Subscript):
            node = node.value
        return node.id if isinstance(node, ast.Name) else "." + node.attr if isinstance(node, ast.Attribute) else None

    def test_own_calls_pass_what_is_taken(self):
        """Each call of a function or class of the package passes as many arguments as it takes."""
        taken = {}
        for file, text, tree in self.each():
            for node in tree.body:
                if isinstance(node, ast.FunctionDef):
                    taken[file, node.name] = (node.args, 0)
                if isinstance(node, ast.ClassDef):
                    for item in node.body:
                        if isinstance(item, ast.FunctionDef) and item.name == "__init__":
                            taken[file, node.name] = (item.args, 1)
        for file, text, tree in self.each():
            known = {name: kept for (source, name), kept in taken.items() if source == file}
            for node in tree.body:
                if isinstance(node, ast.ImportFrom) and node.module.startswith("rampworks"):
                    source = PACKAGE.parent / (node.module.replace(".", "/") + ".py")
                    for alias in node.names:
                        if (source, alias.name) in taken:
                            known[alias.name] = taken[source, alias.name]
            for node in ast.walk(tree):
                if isinstance(node, ast.Call) and isinstance(node.func, ast.Name) and node.func.id in known:
                    args, own = known[node.func.id]
                    self.assertEqual(args.kwonlyargs, [])
                    self.assertEqual(node.keywords, [])
                    many = len(args.args) - own
                    self.assertTrue(many - len(args.defaults) <= len(node.args) <= many, (file, node.lineno))

    def test_locals_are_assigned(self):
        """Each name that a function reads is its own, of its file, or a builtin."""
        for file, text, tree in self.each():
            known = set(vars(builtins))
            for node in tree.body:
                if isinstance(node, ast.ImportFrom):
                    known |= {alias.name for alias in node.names}
                elif isinstance(node, ast.Assign):
                    known.add(node.targets[0].id)
                elif isinstance(node, (ast.FunctionDef, ast.ClassDef)):
                    known.add(node.name)
            for function in functions(tree):
                own = {node.id for node in ast.walk(function)
                       if isinstance(node, ast.Name) and not isinstance(node.ctx, ast.Load)}
                own |= {node.arg for node in ast.walk(function) if isinstance(node, ast.arg)}
                for node in ast.walk(function):
                    if isinstance(node, ast.Name) and isinstance(node.ctx, ast.Load):
                        self.assertIn(node.id, known | own, f"line {node.lineno} of {file.name}")
                        self.assertNotEqual(node.id, "_")

    def test_nothing_is_left_over(self):
        """Each function of the package is used in it, or listed in the interface."""
        from tests.test_interface import LISTED, METHODS as METHODS_LISTED
        listed = {line.split("(")[0] for lines in (*LISTED.values(), METHODS_LISTED) for line in lines} | {"names"}
        used = set()
        for file, text, tree in self.each():
            for node in ast.walk(tree):
                if isinstance(node, ast.Name) and isinstance(node.ctx, ast.Load):
                    used.add(node.id)
                if isinstance(node, ast.Attribute) and isinstance(node.ctx, ast.Load):
                    used.add(node.attr)
        for file, text, tree in self.each():
            if file.name != "errors.py":
                for node in ast.walk(tree):
                    if isinstance(node, (ast.FunctionDef, ast.ClassDef)) and node.name not in DOUBLE:
                        self.assertTrue(node.name in used | listed, f"{node.name} in {file.name}")

    def test_each_part_says_what_it_does(self):
        for file, text, tree in self.each():
            self.assertTrue(ast.get_docstring(tree))
            for node in ast.walk(tree):
                if isinstance(node, ast.ClassDef) or isinstance(node, ast.FunctionDef) and node.name not in DOUBLE:
                    self.assertTrue(ast.get_docstring(node), node.name)
            self.assertIsNone(re.search(r"\b(TODO|FIXME|XXX)\b", text))
