"""Whether the package's files keep to the small part of Python that the program is written in.

This looks at what a walk of the syntax can see: files, signs, sizes, imports, statements, names, methods.
"""

import ast
import builtins
import pathlib
import re
import unittest

PACKAGE = pathlib.Path(__file__).resolve().parent.parent / "waitloom"

OWN_NAMES = """len range enumerate zip min max sum abs sorted reversed int str bool list tuple dict set frozenset
isinstance ord repr any all divmod Exception ValueError TypeError KeyError IndexError LookupError ZeroDivisionError
ArithmeticError OverflowError RuntimeError NotImplementedError AttributeError StopIteration""".split()

METHODS = """append clear copy count endswith extend find get index insert isalnum isalpha isdigit islower isspace
isupper items join keys ljust lower lstrip partition pop remove replace reverse rfind rjust rpartition rsplit rstrip
setdefault split splitlines startswith strip update upper values zfill bit_length""".split()

NEVER = """register mro elements open input version_info with_traceback add_note attrgetter breakpoint builtins
compile copyright credits delattr dir eval exec exit gc getattr globals hasattr help id importlib license locals
methodcaller os quit setattr super type vars sys __name__ format format_map chr""".split()

WORDS = """type typing typing_extensions enum Enum IntEnum StrEnum Flag IntFlag Generic Protocol ABC ABCMeta
namedtuple NamedTuple TypedDict TYPE_CHECKING abstractmethod""".split()

DUNDERS = ("__init__", "__eq__", "__repr__", "__str__", "__len__")

NODES = """Module Import ImportFrom alias FunctionDef ClassDef arguments arg Lambda Assign AugAssign If While For
Return Break Continue Pass Raise Try ExceptHandler Expr Constant List Tuple Dict Name Attribute Subscript Slice
BinOp UnaryOp BoolOp Compare IfExp Call keyword ListComp comprehension JoinedStr FormattedValue Load Store
Add Sub Mult FloorDiv Mod Pow BitAnd BitOr BitXor LShift RShift Invert And Or Not USub UAdd Eq NotEq Lt LtE Gt GtE
In NotIn Is IsNot""".split()

NOT_OWN_VALUES = """items keys values pop update append clear extend insert remove reverse setdefault sort args
encode format""".split()


def files():
    return sorted(path for path in PACKAGE.rglob("*") if "__pycache__" not in path.parts)


def module_of(path):
    return "waitloom." + path.stem


class LanguageTest(unittest.TestCase):
    def setUp(self):
        self.sources = {path: path.read_bytes().decode("ascii") for path in files() if path.is_file()}
        self.trees = {path: ast.parse(source) for path, source in self.sources.items()}

    def nodes(self):
        for path, tree in self.trees.items():
            for node in ast.walk(tree):
                yield f"{path.name}:{getattr(node, 'lineno', 0)}", node

    def test_files(self):
        self.assertIn(PACKAGE / "__init__.py", self.sources)
        for path in files():
            self.assertTrue(path.is_file() and path.suffix == ".py", path)
            self.assertRegex(path.stem, r"\A(__init__|__main__|[a-z][a-z0-9_]*)\Z")
            self.assertNotIn(path.stem, dir(builtins) + WORDS + ["test", "tests", "testing", "site", "conftest"])

    def test_signs_and_sizes(self):
        for path, source in self.sources.items():
            lines = source.split("\n")
            self.assertLessEqual(len(lines), 401, path)
            for line in lines:
                self.assertRegex(line, r"\A[ -~]{0,120}\Z", path)
            for node in ast.walk(self.trees[path]):
                if isinstance(node, ast.FunctionDef):
                    self.assertLessEqual(node.end_lineno - node.lineno + 1, 40, node.name)

    def test_words(self):
        for path, source in self.sources.items():
            for word in re.findall(r"\w+", source):
                self.assertNotIn(word, WORDS, path)
                self.assertNotRegex(word, "dataclass|overload|contextmanager", path)

    def test_nodes(self):
        for where, node in self.nodes():
            self.assertIn(type(node).__name__, NODES, where)
            if isinstance(node, ast.Constant):
                self.assertIsInstance(node.value, (int, str, bool, type(None)), where)
                if isinstance(node.value, str):
                    self.assertNotIn("%", node.value, where)
            if isinstance(node, ast.Assign):
                self.assertEqual(len(node.targets), 1, where)
            if isinstance(node, (ast.For, ast.While)):
                self.assertEqual(node.orelse, [], where)
            if isinstance(node, ast.Try):
                self.assertEqual(node.finalbody, [], where)
            if isinstance(node, ast.ListComp):
                self.assertEqual(len(node.generators), 1, where)
                self.assertLessEqual(len(node.generators[0].ifs), 1, where)
            if isinstance(node, ast.FormattedValue):
                self.assertIsInstance(node.value, ast.Name, where)
                self.assertIsNone(node.format_spec, where)
            if isinstance(node, ast.Compare):
                for op, right in zip(node.ops, node.comparators):
                    if isinstance(op, (ast.Is, ast.IsNot)):
                        self.assertIsInstance(right, ast.Constant, where)

    def test_functions_and_classes(self):
        for where, node in self.nodes():
            if isinstance(node, (ast.FunctionDef, ast.ClassDef)):
                self.assertEqual(node.decorator_list, [], where)
            if isinstance(node, ast.arguments):
                self.assertEqual((node.vararg, node.kwarg, node.kwonlyargs, node.posonlyargs), (None, None, [], []), where)
            if isinstance(node, ast.ClassDef):
                self.assertLessEqual(len(node.bases), 1, where)
                self.assertEqual(node.keywords, [], where)
                for one in node.body:
                    plain = isinstance(one, ast.FunctionDef) or isinstance(one, ast.Expr) and isinstance(one.value, ast.Constant)
                    self.assertTrue(plain, where)

    def test_top_of_each_file(self):
        for path, tree in self.trees.items():
            bound = []
            for node in tree.body:
                self.assertIsInstance(node, (ast.Expr, ast.ImportFrom, ast.FunctionDef, ast.ClassDef, ast.Assign), path)
                if isinstance(node, ast.Expr):
                    self.assertIsInstance(node.value, ast.Constant, path)
                if isinstance(node, ast.Assign):
                    bound.append(node.targets[0].id)
                    for part in ast.walk(node.value):
                        self.assertIsInstance(part, (ast.Constant, ast.Tuple, ast.List, ast.Dict, ast.Name, ast.USub,
                                                     ast.UnaryOp, ast.Load), path)
                if isinstance(node, (ast.FunctionDef, ast.ClassDef)):
                    bound.append(node.name)
                if isinstance(node, ast.ImportFrom):
                    bound.extend(alias.asname or alias.name for alias in node.names)
            self.assertEqual(len(bound), len(set(bound)), path)

    def test_imports(self):
        drawn = {}
        for path, tree in self.trees.items():
            drawn[module_of(path)] = []
            for node in ast.walk(tree):
                self.assertNotIsInstance(node, ast.Import, path)
                if isinstance(node, ast.ImportFrom):
                    self.assertIn(node, tree.body, path)
                    self.assertEqual(node.level, 0, path)
                    self.assertIn(node.module, [module_of(other) for other in self.sources], path)
                    drawn[module_of(path)].append(node.module)
                    defined = self.defined(PACKAGE / (node.module.split(".")[1] + ".py"))
                    for alias in node.names:
                        self.assertIn(alias.name, defined, path)
        self.assertEqual(drawn["waitloom.__init__"], [])
        while drawn:
            free = [name for name in drawn if not [other for other in drawn[name] if other in drawn]]
            self.assertTrue(free, f"these draw from one another: {sorted(drawn)}")
            drawn = {name: drawn[name] for name in drawn if name not in free}

    def defined(self, path):
        found = []
        for node in self.trees[path].body:
            if isinstance(node, (ast.FunctionDef, ast.ClassDef)):
                found.append(node.name)
            if isinstance(node, ast.Assign):
                found.append(node.targets[0].id)
        return found

    def test_names(self):
        for path, tree in self.trees.items():
            own = self.defined(path)
            for node in tree.body:
                if isinstance(node, ast.ImportFrom):
                    own.extend(alias.name for alias in node.names)
            for where, name, stored in self.names_in(tree, path):
                if name in DUNDERS:
                    continue
                self.assertRegex(name, r"\A[A-Za-z][A-Za-z0-9_]*\Z", where)
                self.assertNotIn(name, NEVER, where)
                if stored:
                    self.assertNotIn(name, dir(builtins), where)
                elif name in dir(builtins):
                    self.assertIn(name, OWN_NAMES, where)
            for node in ast.walk(tree):
                if isinstance(node, ast.FunctionDef):
                    local = [one.arg for one in node.args.args]
                    local += [one.id for one in ast.walk(node) if isinstance(one, ast.Name) and isinstance(one.ctx, ast.Store)]
                    self.assertEqual([name for name in local if name in own], [], node.name)

    def names_in(self, tree, path):
        for node in ast.walk(tree):
            where = f"{path.name}:{getattr(node, 'lineno', 0)}"
            if isinstance(node, ast.Name):
                yield where, node.id, isinstance(node.ctx, ast.Store)
            if isinstance(node, ast.arg):
                yield where, node.arg, True
            if isinstance(node, (ast.FunctionDef, ast.ClassDef)):
                yield where, node.name, False

    def test_methods_and_values(self):
        methods = []
        values = []
        for where, node in self.nodes():
            if isinstance(node, ast.ClassDef):
                methods.extend(one.name for one in node.body if isinstance(one, ast.FunctionDef))
            if isinstance(node, ast.Attribute) and isinstance(node.ctx, ast.Store):
                self.assertIsInstance(node.value, ast.Name, where)
                values.append(node.attr)
        self.assertEqual([name for name in values if name in methods], [])
        for name in values:
            self.assertNotIn(name, NOT_OWN_VALUES + NEVER)
        for where, node in self.nodes():
            if isinstance(node, ast.Attribute):
                self.assertIn(node.attr, METHODS + methods + values, where)
                self.assertNotIn(node.attr, NEVER, where)

    def test_lists_and_dicts_at_the_top_hold_no_others(self):
        for path, tree in self.trees.items():
            for node in tree.body:
                if isinstance(node, ast.Assign):
                    held = [one for one in ast.walk(node.value) if isinstance(one, (ast.List, ast.Dict))]
                    self.assertEqual([one for one in held if one is not node.value], [], path)

    def test_lists_and_dicts_at_the_top_are_only_read(self):
        kept = {}
        for path, tree in self.trees.items():
            kept[module_of(path)] = [node.targets[0].id for node in tree.body
                                     if isinstance(node, ast.Assign) and isinstance(node.value, (ast.List, ast.Dict))]
        for path, tree in self.trees.items():
            tops = list(kept[module_of(path)])
            for node in tree.body:
                if isinstance(node, ast.ImportFrom):
                    tops.extend(alias.name for alias in node.names if alias.name in kept[node.module])
            parents = {inner: node for node in ast.walk(tree) for inner in ast.iter_child_nodes(node)}
            for node in ast.walk(tree):
                if isinstance(node, ast.Name) and node.id in tops and isinstance(node.ctx, ast.Load):
                    self.assertTrue(self.is_reading(parents[node], node), f"{path.name}:{node.lineno}")

    def is_reading(self, above, node):
        """Whether a list or dict of a file's top is only read where it stands."""
        if isinstance(above, ast.Subscript):
            return above.value is node and isinstance(above.ctx, ast.Load)
        if isinstance(above, ast.Attribute):
            return above.attr in ("get", "items", "keys", "values", "index", "count")
        if isinstance(above, ast.Call):
            return isinstance(above.func, ast.Name) and above.func.id in ("len", "list", "dict", "tuple", "sorted", "enumerate")
        if isinstance(above, (ast.For, ast.comprehension)):
            return above.iter is node
        return isinstance(above, ast.Compare)

    def test_keywords(self):
        allowed = {"sorted": ("key", "reverse"), "min": ("key", "default"), "max": ("key", "default"), "sum": ("start",),
                   "enumerate": ("start",), "zip": ("strict",)}
        for where, node in self.nodes():
            if isinstance(node, ast.Call) and node.keywords:
                name = node.func.id if isinstance(node.func, ast.Name) else ""
                for keyword in node.keywords:
                    self.assertIn(keyword.arg, allowed.get(name, ()), where)

    def test_walked_on_the_spot(self):
        for path, tree in self.trees.items():
            parents = {inner: node for node in ast.walk(tree) for inner in ast.iter_child_nodes(node)}
            for node in ast.walk(tree):
                if not isinstance(node, ast.Call):
                    continue
                walked = isinstance(node.func, ast.Name) and node.func.id in ("zip", "enumerate", "reversed", "range")
                walked = walked or isinstance(node.func, ast.Attribute) and node.func.attr in ("items", "keys", "values")
                if walked:
                    above = parents[node]
                    good = isinstance(above, (ast.For, ast.comprehension)) and above.iter is node
                    if isinstance(above, ast.Call) and isinstance(above.func, ast.Name) and above.args[0] is node:
                        good = above.func.id in ("list", "tuple", "dict", "sorted", "sum", "any", "all", "enumerate", "zip",
                                                 "min", "max")
                    self.assertTrue(good, f"{path.name}:{node.lineno}")

    def test_powers_and_shared_words(self):
        for where, node in self.nodes():
            if isinstance(node, ast.BinOp) and isinstance(node.op, ast.Pow):
                self.assertIsInstance(node.right, ast.Constant, where)
            if isinstance(node, ast.Compare):
                for op, right in zip(node.ops, node.comparators):
                    if isinstance(op, (ast.Is, ast.IsNot)):
                        self.assertIn(right.value, (None, True, False), where)
            if isinstance(node, ast.Assign):
                self.assertIsInstance(node.targets[0], (ast.Name, ast.Attribute, ast.Subscript), where)

    def test_errors(self):
        for where, node in self.nodes():
            if isinstance(node, ast.ExceptHandler):
                self.assertIsNotNone(node.type, where)
                for part in ast.walk(node.type):
                    if isinstance(part, ast.Name):
                        self.assertNotIn(part.id, ("Exception", "TypeError", "RuntimeError", "AttributeError"), where)
            if isinstance(node, ast.Raise):
                self.assertIsInstance(node.exc, ast.Call, where)

    def test_sets_stand_in_their_places(self):
        for where, node in self.nodes():
            if isinstance(node, (ast.Assign, ast.Return)) and isinstance(node.value, ast.Call):
                if isinstance(node.value.func, ast.Name):
                    self.assertNotIn(node.value.func.id, ("set", "frozenset", "zip", "enumerate", "reversed", "range"), where)


if __name__ == "__main__":
    unittest.main()
