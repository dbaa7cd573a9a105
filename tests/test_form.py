"""Holds the package's files to the part of Python that they keep to, so far as a plain look at each can tell."""

import ast
import builtins
import pathlib
import re
import unittest

PACKAGE = pathlib.Path(__file__).resolve().parent.parent / "tally"
SOURCES = sorted(PACKAGE.glob("*.py"))

NODES = """
Module Expr Constant Load Store arguments arg FunctionDef Lambda ClassDef Return Assign AugAssign For While If
Raise Try ExceptHandler ImportFrom alias Pass Break Continue BoolOp And Or BinOp Add Sub Mult FloorDiv Mod Pow
LShift RShift BitOr BitXor BitAnd UnaryOp Not USub UAdd Invert IfExp Dict Set List Tuple ListComp comprehension
Compare Eq NotEq Lt LtE Gt GtE Is IsNot In NotIn Call keyword JoinedStr FormattedValue Attribute Subscript Slice Name
""".split()
OWN_NAMES = """
len range enumerate zip min max sum abs sorted reversed int str bool list tuple dict set frozenset isinstance ord repr
any all divmod Exception ValueError TypeError KeyError IndexError LookupError ZeroDivisionError ArithmeticError
OverflowError RuntimeError NotImplementedError AttributeError StopIteration
""".split()
METHODS = """
append clear copy count endswith extend find get index insert isalnum isalpha isdigit islower isspace isupper items
join keys ljust lower lstrip partition pop remove replace reverse rfind rjust rpartition rsplit rstrip setdefault
split splitlines startswith strip update upper values zfill bit_length
""".split()
DUNDERS = ["__init__", "__eq__", "__repr__", "__str__", "__len__"]
BARRED_WORDS = """
type typing typing_extensions enum Enum IntEnum StrEnum Flag IntFlag Generic Protocol ABC ABCMeta namedtuple
NamedTuple TypedDict TYPE_CHECKING abstractmethod
""".split()
BARRED_PARTS = ["dataclass", "overload", "contextmanager"]
PLAIN_NAME = re.compile("[A-Za-z][A-Za-z0-9_]*")


def is_docstring(node):
    return isinstance(node, ast.Expr) and isinstance(node.value, ast.Constant) and isinstance(node.value.value, str)


def bound_names(tree):
    names = []
    for node in ast.walk(tree):
        if isinstance(node, (ast.FunctionDef, ast.ClassDef)):
            names.append(node.name)
        if isinstance(node, ast.arg):
            names.append(node.arg)
        if isinstance(node, ast.Name) and isinstance(node.ctx, ast.Store):
            names.append(node.id)
        if isinstance(node, ast.ExceptHandler) and node.name:
            names.append(node.name)
        if isinstance(node, ast.Attribute) and isinstance(node.ctx, ast.Store):
            names.append(node.attr)
    return names


def class_names(trees):
    methods, values = set(), set()
    for tree in trees:
        for node in ast.walk(tree):
            if isinstance(node, ast.ClassDef):
                methods.update(part.name for part in node.body if isinstance(part, ast.FunctionDef))
            if isinstance(node, ast.Attribute) and isinstance(node.ctx, ast.Store):
                values.add(node.attr)
    return methods, values


class Form(unittest.TestCase):
    def setUp(self):
        self.texts = {path.name: path.read_text(encoding="utf-8") for path in SOURCES}
        self.trees = {name: ast.parse(text) for name, text in self.texts.items()}

    def nodes(self, *kinds):
        for name, tree in self.trees.items():
            for node in ast.walk(tree):
                if not kinds or isinstance(node, kinds):
                    yield (name, getattr(node, "lineno", 0)), node

    def test_the_folder_holds_sources_alone(self):
        self.assertIn(PACKAGE / "__init__.py", SOURCES)
        for path in PACKAGE.iterdir():
            if path.name != "__pycache__":
                self.assertRegex(path.name, r"\A[a-z_][a-z0-9_]*\.py\Z")

    def test_signs_and_sizes(self):
        for name, text in self.texts.items():
            self.assertRegex(text, r"\A[ -~\n]*\Z", name)
            lines = text.split("\n")
            self.assertLessEqual(len(lines), 401, name)
            for number, line in enumerate(lines, 1):
                self.assertLessEqual(len(line), 120, (name, number))
        for place, node in self.nodes(ast.FunctionDef):
            self.assertLessEqual(node.end_lineno - node.lineno + 1, 40, place)

    def test_barred_words(self):
        for name, text in self.texts.items():
            for word in re.findall("[A-Za-z0-9_]+", text):
                self.assertNotIn(word, BARRED_WORDS, name)
                for part in BARRED_PARTS:
                    self.assertNotIn(part, word, name)

    def test_nothing_but_the_listed_forms(self):
        for place, node in self.nodes():
            kind = node.__class__.__name__
            self.assertIn(kind, NODES, place)
            if kind == "Constant":
                self.assertIn(node.value.__class__, (int, str, bool, None.__class__), place)
                if isinstance(node.value, str):
                    self.assertNotIn("\u0025", node.value, place)
            if kind == "Assign":
                self.assertEqual(len(node.targets), 1, place)
            if kind == "Expr" and not is_docstring(node):
                self.assertIsInstance(node.value, ast.Call, place)
            if kind == "FormattedValue":
                self.assertIsInstance(node.value, ast.Name, place)
                self.assertIsNone(node.format_spec, place)
            if kind == "ListComp":
                self.assertEqual(len(node.generators), 1, place)
                self.assertLessEqual(len(node.generators[0].ifs), 1, place)
            if kind in ("For", "While"):
                self.assertEqual(node.orelse, [], place)
            if kind == "Try":
                self.assertEqual(node.finalbody, [], place)
            if kind == "ExceptHandler":
                self.assertIsNotNone(node.type, place)

    def test_is_stands_beside_none_and_truths(self):
        for place, node in self.nodes(ast.Compare):
            sides = [node.left] + node.comparators
            for number, sign in enumerate(node.ops):
                if isinstance(sign, (ast.Is, ast.IsNot)):
                    pair = sides[number:number + 2]
                    plain = [s for s in pair if isinstance(s, ast.Constant) and s.value in (None, True, False)]
                    self.assertTrue(plain, place)

    def test_functions_and_classes(self):
        for place, node in self.nodes(ast.FunctionDef, ast.Lambda):
            taken = node.args
            self.assertFalse(taken.vararg or taken.kwarg or taken.kwonlyargs or taken.posonlyargs, place)
        for place, node in self.nodes(ast.FunctionDef, ast.ClassDef):
            self.assertEqual(node.decorator_list, [], place)
        for place, node in self.nodes(ast.ClassDef):
            self.assertLessEqual(len(node.bases), 1, place)
            self.assertEqual(node.keywords, [], place)
            for part in node.body:
                self.assertTrue(isinstance(part, (ast.FunctionDef, ast.Pass)) or is_docstring(part), place)

    def test_imports(self):
        files = ["tally." + name[:-len(".py")] for name in self.texts]
        for name, tree in self.trees.items():
            for node in ast.walk(tree):
                if isinstance(node, ast.ImportFrom):
                    self.assertIn(node, tree.body, name)
                    self.assertEqual(node.level, 0, name)
                    self.assertIn(node.module, files, name)
                    self.assertNotEqual(node.module, "tally.__main__", name)
                    self.defines(node.module.split(".")[1] + ".py", [alias.name for alias in node.names])

    def defines(self, name, wanted):
        found = []
        for node in self.trees[name].body:
            if isinstance(node, (ast.FunctionDef, ast.ClassDef)):
                found.append(node.name)
            if isinstance(node, ast.Assign):
                found.append(node.targets[0].id)
        for word in wanted:
            self.assertIn(word, found, name)
        self.assertEqual(len(found), len(set(found)), name)

    def test_the_top_of_each_file(self):
        for name, tree in self.trees.items():
            for node in tree.body:
                kinds = (ast.ImportFrom, ast.FunctionDef, ast.ClassDef, ast.Assign)
                self.assertTrue(isinstance(node, kinds) or (node is tree.body[0] and is_docstring(node)), name)

    def test_no_file_draws_from_itself_in_whatever_many_steps(self):
        draws = {}
        for name, tree in self.trees.items():
            modules = [node.module for node in ast.walk(tree) if isinstance(node, ast.ImportFrom)]
            draws[name] = [module.split(".")[1] + ".py" for module in modules]
        for name in draws:
            seen, ahead = set(), list(draws[name])
            while ahead:
                other = ahead.pop()
                self.assertNotEqual(other, name)
                if other not in seen:
                    seen.add(other)
                    ahead += draws[other]

    def test_names(self):
        for name, tree in self.trees.items():
            bound = bound_names(tree)
            for word in bound:
                self.assertTrue(PLAIN_NAME.fullmatch(word) or word in DUNDERS, (name, word))
            tops = [node.name for node in tree.body if isinstance(node, (ast.FunctionDef, ast.ClassDef))]
            methods, values = class_names([tree])
            for word in set(bound) - methods - values | set(tops):
                self.assertFalse(hasattr(builtins, word), (name, word))
            for node in ast.walk(tree):
                if isinstance(node, ast.Name) and hasattr(builtins, node.id):
                    self.assertIn(node.id, OWN_NAMES, (name, node.id))

    def test_no_local_is_called_like_a_class_or_an_import(self):
        for name, tree in self.trees.items():
            taken = {alias.name for node in ast.walk(tree) if isinstance(node, ast.ImportFrom) for alias in node.names}
            used = {node.id for node in ast.walk(tree) if isinstance(node, ast.Name)}
            self.assertEqual(taken - used, set(), name)
            taken |= {node.name for node in tree.body if isinstance(node, ast.ClassDef)}
            for node in ast.walk(tree):
                if isinstance(node, ast.FunctionDef):
                    self.assertEqual(taken & set(bound_names(node)), set(), (name, node.name))

    def test_methods_and_values(self):
        methods, values = class_names(self.trees.values())
        self.assertEqual(methods & values, set())
        for place, node in self.nodes(ast.Attribute):
            self.assertIn(node.attr, set(METHODS) | methods | values | {"__init__"}, place)


if __name__ == "__main__":
    unittest.main()
