"""The rules of LANGUAGE.md that can be seen in the package's files one by one."""

import ast
import builtins
import pathlib
import re
import unittest

PACKAGE = pathlib.Path(__file__).resolve().parent.parent / "arraytexts"

NODES = set("""Module Expr ImportFrom alias FunctionDef arguments arg ClassDef Assign AugAssign If While For Return Break
    Continue Pass Raise Try ExceptHandler Constant List Tuple Dict Set Name Attribute Subscript Slice Call keyword
    BinOp UnaryOp BoolOp Compare IfExp ListComp comprehension Lambda JoinedStr FormattedValue Load Store
    Add Sub Mult FloorDiv Mod Pow BitAnd BitOr BitXor LShift RShift Invert Not USub UAdd And Or
    Eq NotEq Lt LtE Gt GtE Is IsNot In NotIn""".split())
OWN_NAMES = set("""len range enumerate zip min max sum abs sorted reversed int str bool list tuple dict set frozenset
    isinstance ord repr any all divmod Exception ValueError TypeError KeyError IndexError LookupError
    ZeroDivisionError ArithmeticError OverflowError RuntimeError NotImplementedError AttributeError
    StopIteration""".split())
METHODS = set("""append clear copy count endswith extend find get index insert isalnum isalpha isdigit islower isspace
    isupper items join keys ljust lower lstrip partition pop remove replace reverse rfind rjust rpartition rsplit
    rstrip setdefault split splitlines startswith strip update upper values zfill bit_length""".split())
DUNDERS = {"__init__", "__eq__", "__repr__", "__str__", "__len__"}
WORDS = """type typing typing_extensions enum Enum IntEnum StrEnum Flag IntFlag Generic Protocol ABC ABCMeta namedtuple
    NamedTuple TypedDict TYPE_CHECKING abstractmethod""".split()
NOT_USED = "register mro elements open input version_info with_traceback add_note".split()


def bound_names(tree):
    """Every name that the file binds, wherever."""
    names = set()
    for node in ast.walk(tree):
        if isinstance(node, (ast.FunctionDef, ast.ClassDef)):
            names.add(node.name)
        elif isinstance(node, ast.arg):
            names.add(node.arg)
        elif isinstance(node, ast.alias):
            names.add(node.asname or node.name)
        elif isinstance(node, ast.Name) and isinstance(node.ctx, ast.Store):
            names.add(node.id)
        elif isinstance(node, ast.ExceptHandler) and node.name:
            names.add(node.name)
    return names


def top_names(tree):
    names = [node.name for node in tree.body if isinstance(node, (ast.FunctionDef, ast.ClassDef))]
    return names + [node.targets[0].id for node in tree.body if isinstance(node, ast.Assign)]


def object_values(tree):
    return {node.attr for node in ast.walk(tree) if isinstance(node, ast.Attribute) and isinstance(node.ctx, ast.Store)}


def own_methods(tree):
    classes = [node for node in ast.walk(tree) if isinstance(node, ast.ClassDef)]
    return {item.name for node in classes for item in node.body if isinstance(item, ast.FunctionDef)}


class Language(unittest.TestCase):
    def setUp(self):
        self.files = sorted(PACKAGE.glob("*.py"))
        self.sources = {path.stem: path.read_text(encoding="ascii") for path in self.files}
        self.trees = {name: ast.parse(source) for name, source in self.sources.items()}

    def nodes(self, *kinds):
        for name, tree in self.trees.items():
            for node in ast.walk(tree):
                if isinstance(node, kinds):
                    yield f"{name}.py:{getattr(node, 'lineno', 0)}", node

    def test_files(self):
        others = [path for path in PACKAGE.iterdir() if path not in self.files and path.name != "__pycache__"]
        self.assertEqual(others, [])
        self.assertIn("__init__", self.sources)
        for name in self.sources:
            self.assertRegex(name, r"\A(__init__|[a-z][a-z0-9_]*)\Z")
            self.assertNotIn(name, dir(builtins))

    def test_size_and_signs(self):
        for name, source in self.sources.items():
            self.assertRegex(source, r"\A[ -~\n]*\Z", name)
            self.assertLessEqual(len(source.splitlines()), 400, name)
            self.assertLessEqual(max(map(len, source.splitlines())), 120, name)
        for place, node in self.nodes(ast.FunctionDef):
            self.assertLessEqual(node.end_lineno - node.lineno + 1, 40, place)

    def test_words(self):
        for name, source in self.sources.items():
            for word in WORDS:
                self.assertIsNone(re.search(rf"\b{word}\b", source), f"{name}: {word}")
            self.assertIsNone(re.search("dataclass|overload|contextmanager", source), name)

    def test_imports(self):
        drawn = {}
        for name, tree in self.trees.items():
            rows = [node for node in ast.walk(tree) if isinstance(node, ast.ImportFrom)]
            drawn[name] = [row.module.removeprefix("arraytexts.") for row in rows]
            for row, module in zip(rows, drawn[name]):
                self.assertIn(row, tree.body, name)
                self.assertEqual(row.level, 0, name)
                for item in row.names:
                    self.assertIn(item.name, top_names(self.trees[module]), name)
        while drawn:
            free = [name for name in drawn if not set(drawn[name]) & set(drawn)]
            self.assertTrue(free, f"these draw from one another: {drawn}")
            for name in free:
                drawn.pop(name)

    def test_forms(self):
        for place, node in self.nodes(ast.AST):
            self.assertIn(node.__class__.__name__, NODES, place)
        for place, node in self.nodes(ast.Assign):
            self.assertEqual(len(node.targets), 1, place)
            self.assertNotIsInstance(node.targets[0], (ast.Tuple, ast.List), place)
        for place, node in self.nodes(ast.For, ast.While):
            self.assertEqual(node.orelse, [], place)
        for place, node in self.nodes(ast.FunctionDef, ast.ClassDef):
            self.assertEqual(node.decorator_list, [], place)
        for place, node in self.nodes(ast.arguments):
            self.assertFalse(node.vararg or node.kwarg or node.kwonlyargs or node.posonlyargs, place)
        for place, node in self.nodes(ast.Constant):
            self.assertIsInstance(node.value, (int, str, type(None)), place)
            self.assertNotIn("%", str(node.value), place)

    def test_tops(self):
        for name, tree in self.trees.items():
            self.assertIsNotNone(ast.get_docstring(tree), name)
            names = top_names(tree)
            self.assertEqual(len(names), len(set(names)), name)
            for node in tree.body[1:]:
                self.assertIsInstance(node, (ast.ImportFrom, ast.FunctionDef, ast.ClassDef, ast.Assign), name)

    def test_names(self):
        for name, tree in self.trees.items():
            bound = bound_names(tree)
            self.assertEqual(bound & set(dir(builtins)), set(), name)
            self.assertEqual([item for item in bound - DUNDERS if item.startswith("_")], [], name)
            used = {node.id for node in ast.walk(tree) if isinstance(node, ast.Name)}
            self.assertLessEqual(used - bound, OWN_NAMES, name)
            self.assertEqual((used | bound | object_values(tree)) & set(NOT_USED), set(), name)

    def test_methods_and_values(self):
        methods = set().union(*[own_methods(tree) for tree in self.trees.values()])
        values = set().union(*[object_values(tree) for tree in self.trees.values()])
        self.assertEqual(methods & values, set())
        pythons = set(dir(str) + dir(int) + dir(list) + dir(dict) + dir(set) + dir(bytes))
        self.assertEqual((methods | values) & pythons - DUNDERS, set())
        for place, node in self.nodes(ast.Call):
            if isinstance(node.func, ast.Attribute):
                self.assertIn(node.func.attr, METHODS | methods, place)


if __name__ == "__main__":
    unittest.main()
