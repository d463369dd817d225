"""The package's own files keep to the small part of Python that they are written in."""

import ast
import builtins
import pathlib
import re
import unittest

PACKAGE = pathlib.Path(__file__).resolve().parent.parent / "maygo"

OWN_NAMES = set("""
    len range enumerate zip min max sum abs sorted reversed int str bool list tuple dict set frozenset isinstance
    ord repr any all divmod Exception ValueError TypeError KeyError IndexError LookupError ZeroDivisionError
    ArithmeticError OverflowError RuntimeError NotImplementedError AttributeError StopIteration
""".split())
METHODS = set("""
    append clear copy count endswith extend find get index insert isalnum isalpha isdigit islower isspace isupper
    items join keys ljust lower lstrip partition pop remove replace reverse rfind rjust rpartition rsplit rstrip
    setdefault split splitlines startswith strip update upper values zfill bit_length
""".split())
NODES = set("""
    Module ImportFrom alias FunctionDef ClassDef arguments arg Assign AugAssign If While For Return Break Continue
    Pass Raise Try ExceptHandler Expr Call Attribute Subscript Slice Name Constant List Tuple Dict ListComp
    comprehension BinOp UnaryOp BoolOp Compare IfExp Lambda keyword JoinedStr FormattedValue Load Store
    Add Sub Mult FloorDiv Mod Pow BitAnd BitOr BitXor LShift RShift Invert USub UAdd Not And Or
    Eq NotEq Lt LtE Gt GtE Is IsNot In NotIn
""".split())
WORDS = re.compile(
    r"\b(type|typing|typing_extensions|enum|Enum|IntEnum|StrEnum|Flag|IntFlag|Generic|Protocol|ABC|ABCMeta"
    r"|namedtuple|NamedTuple|TypedDict|TYPE_CHECKING|abstractmethod)\b|dataclass|overload|contextmanager")
UNUSED = set("""
    register mro elements open input version_info with_traceback add_note attrgetter breakpoint builtins compile
    copyright credits delattr dir eval exec exit gc getattr globals hasattr help id importlib license locals
    methodcaller os quit setattr super type vars sys
""".split())
NO_VALUES = set("""
    items keys values pop update append clear extend insert remove reverse setdefault sort args encode format
""".split())


def files():
    return sorted(path for path in PACKAGE.rglob("*") if "__pycache__" not in path.parts)


def trees():
    return [(path.name, ast.parse(path.read_text())) for path in files()]


def bound_in(function):
    names = [one.arg for one in function.args.args]
    for node in ast.walk(function):
        if isinstance(node, ast.Name) and isinstance(node.ctx, ast.Store):
            names.append(node.id)
    return names


class Form(unittest.TestCase):
    def test_files(self):
        self.assertIn("__init__.py", [path.name for path in files()])
        for path in files():
            self.assertTrue(path.is_file(), path)
            self.assertRegex(path.name, r"^([a-z][a-z0-9_]*|__init__|__main__)\.py$")
            self.assertNotIn(path.stem, dir(builtins))

    def test_signs_and_sizes(self):
        for path in files():
            text = path.read_text()
            self.assertRegex(text, r"^[ -~\n]*$", path)
            self.assertIsNone(WORDS.search(text), path)
            self.assertLessEqual(len(text.splitlines()), 400, path)
            self.assertLessEqual(max(len(line) for line in text.splitlines()), 120, path)

    def test_functions_are_small_and_plain(self):
        for name, tree in trees():
            for node in ast.walk(tree):
                if isinstance(node, ast.FunctionDef):
                    self.assertLessEqual(node.end_lineno - node.lineno + 1, 40, (name, node.name))
                    self.assertEqual((node.decorator_list, node.args.vararg, node.args.kwarg, node.args.kwonlyargs),
                                     ([], None, None, []))
                    self.assertFalse(set(bound_in(node)) & set(dir(builtins)), (name, node.name))

    def test_the_top_of_a_file(self):
        for name, tree in trees():
            bound = []
            for node in tree.body:
                self.assertIsInstance(node, (ast.Expr, ast.ImportFrom, ast.FunctionDef, ast.ClassDef, ast.Assign))
                if isinstance(node, ast.ImportFrom):
                    bound += [one.name for one in node.names]
                elif isinstance(node, ast.Assign):
                    bound += [one.id for one in node.targets]
                elif not isinstance(node, ast.Expr):
                    bound.append(node.name)
            self.assertEqual(len(bound), len(set(bound)), name)
            for node in ast.walk(tree):
                if isinstance(node, ast.FunctionDef):
                    self.assertFalse(set(bound_in(node)) & set(bound), (name, node.name))

    def test_imports_are_of_the_package_and_in_no_ring(self):
        drawn = {}
        for name, tree in trees():
            drawn[name] = set()
            for node in ast.walk(tree):
                if isinstance(node, ast.ImportFrom):
                    self.assertRegex(node.module, r"^maygo\.[a-z_]+$")
                    drawn[name].add(node.module.split(".")[1] + ".py")
        self.assertEqual(drawn["__init__.py"], set())
        while drawn:
            free = [name for name in drawn if not drawn[name] & set(drawn)]
            self.assertTrue(free, drawn)
            drawn = {name: drawn[name] for name in drawn if name not in free}

    def test_only_plain_statements_and_expressions(self):
        for name, tree in trees():
            for node in ast.walk(tree):
                place = (name, getattr(node, "lineno", 0))
                self.assertIn(node.__class__.__name__, NODES, place)
                if isinstance(node, (ast.For, ast.While)):
                    self.assertEqual(node.orelse, [], place)
                if isinstance(node, ast.Assign):
                    self.assertEqual(len(node.targets), 1, place)
                if isinstance(node, ast.Constant):
                    self.assertIsInstance(node.value, (int, str, bool, type(None)), place)
                if isinstance(node, ast.Expr) and node is not tree.body[0]:
                    self.assertIsInstance(node.value, ast.Call, place)

    def test_names(self):
        for name, tree in trees():
            for node in ast.walk(tree):
                if isinstance(node, ast.Name):
                    self.assertRegex(node.id, r"^[A-Za-z][A-Za-z0-9_]*$")
                    self.assertNotIn(node.id, UNUSED)
                    self.assertTrue(node.id in OWN_NAMES or node.id not in dir(builtins), (name, node.id))

    def test_methods_and_values_of_objects(self):
        methods, values = set(), set()
        for name, tree in trees():
            for node in ast.walk(tree):
                if isinstance(node, ast.ClassDef):
                    self.assertTrue(all(isinstance(one, ast.FunctionDef) for one in node.body), (name, node.name))
                    methods |= {one.name for one in node.body}
                if isinstance(node, ast.Attribute) and isinstance(node.ctx, ast.Store):
                    values.add(node.attr)
        self.assertEqual(methods & values, set())
        self.assertEqual(values & (NO_VALUES | UNUSED), set())
        for name, tree in trees():
            for node in ast.walk(tree):
                if isinstance(node, ast.Call) and isinstance(node.func, ast.Attribute):
                    self.assertIn(node.func.attr, METHODS | methods, (name, node.lineno))
