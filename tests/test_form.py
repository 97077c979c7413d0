"""Part of the form that the package keeps to, as far as a short look at its files can tell."""

import ast
import builtins
import pathlib
import re
import unittest

ROOT = pathlib.Path(__file__).resolve().parent.parent
PACKAGE = ROOT / "cablehouse"
FILES = sorted(PACKAGE.rglob("*.py"))

OWN_NAMES = """len range enumerate zip min max sum abs sorted reversed int str bool list tuple dict set frozenset
    isinstance ord repr any all divmod Exception ValueError TypeError KeyError IndexError LookupError
    ZeroDivisionError ArithmeticError OverflowError RuntimeError NotImplementedError AttributeError
    StopIteration""".split()
OWN_METHODS = """append clear copy count endswith extend find get index insert isalnum isalpha isdigit islower isspace
    isupper items join keys ljust lower lstrip partition pop remove replace reverse rfind rjust rpartition rsplit
    rstrip setdefault split splitlines startswith strip update upper values zfill bit_length""".split()
DOUBLE = "__init__ __eq__ __repr__ __str__ __len__".split()
NOWHERE = """type typing typing_extensions enum Enum IntEnum StrEnum Flag IntFlag Generic Protocol ABC ABCMeta namedtuple
    NamedTuple TypedDict TYPE_CHECKING abstractmethod""".split()
NOT_WITHIN = ("dataclass", "overload", "contextmanager")
ALLOWED = """Module Expr Assign AugAssign If While For Return Break Continue Pass Raise Try ExceptHandler FunctionDef
    ClassDef ImportFrom alias arguments arg Lambda Constant Name Load Store List Tuple Dict Set BinOp UnaryOp BoolOp
    Compare IfExp Call keyword Attribute Subscript Slice ListComp comprehension JoinedStr FormattedValue
    Add Sub Mult FloorDiv Mod Pow BitAnd BitOr BitXor LShift RShift Invert USub UAdd Not And Or
    Eq NotEq Lt LtE Gt GtE Is IsNot In NotIn""".split()


def nodes_of(file):
    return list(ast.walk(ast.parse(file.read_text(encoding="utf-8"))))


def bound_names(node):
    if isinstance(node, (ast.FunctionDef, ast.ClassDef)):
        return [node.name]
    if isinstance(node, ast.arg):
        return [node.arg]
    if isinstance(node, ast.Name) and isinstance(node.ctx, ast.Store):
        return [node.id]
    if isinstance(node, ast.Attribute):
        return [node.attr]
    return []


class TestForm(unittest.TestCase):
    def test_there_are_files_to_look_at(self):
        self.assertIn(PACKAGE / "__init__.py", FILES)

    def test_only_plain_files_lie_in_the_package(self):
        for path in PACKAGE.rglob("*"):
            if path.is_file() and "__pycache__" not in path.parts:
                self.assertRegex(path.name, r"\A[a-z0-9_]+\.py\Z")

    def test_signs_and_sizes(self):
        for file in FILES:
            text = file.read_text(encoding="utf-8")
            self.assertRegex(text, r"\A[ -~\n]*\Z")
            lines = text.split("\n")
            self.assertLessEqual(len(lines), 400)
            self.assertLessEqual(max(len(line) for line in lines), 120)
            for node in nodes_of(file):
                if isinstance(node, ast.FunctionDef):
                    self.assertLessEqual(node.end_lineno - node.lineno + 1, 40, node.name)

    def test_words_that_stand_nowhere(self):
        for file in FILES:
            text = file.read_text(encoding="utf-8")
            self.assertEqual(set(re.findall(r"\w+", text)) & set(NOWHERE), set())
            for word in NOT_WITHIN:
                self.assertNotIn(word, text)

    def test_statements_and_expressions(self):
        for file in FILES:
            for node in nodes_of(file):
                self.assertIn(type(node).__name__, ALLOWED, getattr(node, "lineno", None))
                if isinstance(node, ast.Constant):
                    self.assertIn(type(node.value), (int, str, bool, type(None)))
                if isinstance(node, ast.Assign):
                    self.assertEqual(len(node.targets), 1)
                    self.assertIsInstance(node.targets[0], (ast.Name, ast.Attribute, ast.Subscript))
                if isinstance(node, (ast.FunctionDef, ast.ClassDef)):
                    self.assertEqual(node.decorator_list, [])
                if isinstance(node, ast.BinOp) and isinstance(node.op, ast.Pow):
                    self.assertIsInstance(node.right, ast.Constant)
                if isinstance(node, (ast.For, ast.While)):
                    self.assertEqual(node.orelse, [])

    def test_imports_are_of_the_package(self):
        for file in FILES:
            for node in nodes_of(file):
                if isinstance(node, ast.ImportFrom):
                    self.assertEqual(node.level, 0)
                    self.assertTrue(node.module.startswith("cablehouse."))
                    self.assertNotIn("*", [name.name for name in node.names])

    def test_names(self):
        for file in FILES:
            nodes = nodes_of(file)
            for node in nodes:
                for name in bound_names(node):
                    self.assertTrue(name in DOUBLE or re.fullmatch(r"[A-Za-z][A-Za-z0-9_]*", name), name)
                if isinstance(node, (ast.Name, ast.arg)):
                    name = node.id if isinstance(node, ast.Name) else node.arg
                    self.assertTrue(name in OWN_NAMES or not hasattr(builtins, name), name)
                    if isinstance(node, ast.arg) or isinstance(node.ctx, ast.Store):
                        self.assertFalse(hasattr(builtins, name), name)

    def test_methods_of_python_s_own(self):
        own = set()
        for file in FILES:
            for node in nodes_of(file):
                if isinstance(node, ast.FunctionDef):
                    own.add(node.name)
        for file in FILES:
            for node in nodes_of(file):
                if isinstance(node, ast.Call) and isinstance(node.func, ast.Attribute):
                    self.assertIn(node.func.attr, own | set(OWN_METHODS))

    def test_no_name_is_a_method_and_a_value(self):
        methods, values = set(), set()
        for file in FILES:
            for node in nodes_of(file):
                if isinstance(node, ast.ClassDef):
                    methods |= {part.name for part in node.body if isinstance(part, ast.FunctionDef)}
                if isinstance(node, ast.Attribute) and isinstance(node.ctx, ast.Store):
                    values.add(node.attr)
        self.assertEqual(methods & values, set())


if __name__ == "__main__":
    unittest.main()
