"""Part of the form that the package keeps to, as far as a short look at its files can tell."""

import ast
import builtins
import pathlib
import re
import unittest

from refusals import NAMES

ROOT = pathlib.Path(__file__).resolve().parent.parent
PACKAGE = ROOT / "cablehouse"
FILES = sorted(PACKAGE.rglob("*.py"))

OWN_NAMES = """len range enumerate zip min max sum abs sorted reversed int str bool list tuple dict set frozenset
    isinstance ord repr any all divmod Exception ValueError TypeError KeyError IndexError LookupError
    ZeroDivisionError ArithmeticError OverflowError RuntimeError NotImplementedError AttributeError
    StopIteration""".split()
OWN_METHODS = """append clear copy count endswith extend find get index insert isalnum isalpha isdigit islower isspace
    isupper items join keys ljust lower lstrip partition pop remove replace reverse rfind rjust rpartition rsplit
    rstrip setdefault split splitlines startswith strip update upper values zfill bit_length""".split()
DOUBLE = "__init__ __eq__ __repr__ __str__ __len__".split()
NOWHERE = """type typing typing_extensions enum Enum IntEnum StrEnum Flag IntFlag Generic Protocol ABC ABCMeta namedtuple
    NamedTuple TypedDict TYPE_CHECKING abstractmethod""".split()
NOT_WITHIN = ("dataclass", "overload", "contextmanager")
ALLOWED = """Module Expr Assign AugAssign If While For Return Break Continue Pass Raise Try ExceptHandler FunctionDef
    ClassDef ImportFrom alias arguments arg Lambda Constant Name Load Store List Tuple Dict Set BinOp UnaryOp BoolOp
    Compare IfExp Call keyword Attribute Subscript Slice ListComp comprehension JoinedStr FormattedValue
    Add Sub Mult FloorDiv Mod Pow BitAnd BitOr BitXor LShift RShift Invert USub UAdd Not And Or
    Eq NotEq Lt LtE Gt GtE Is IsNot In NotIn""".split()

UNUSED = """register mro elements open input version_info with_traceback add_note attrgetter breakpoint builtins compile
    copyright credits delattr dir eval exec exit gc getattr globals hasattr help id importlib license locals methodcaller
    os quit setattr super vars sys format format_map chr print frozenset""".split()
WALKED = "zip enumerate reversed range items keys values".split()
WALKERS = "list tuple dict sorted sum any all enumerate zip min max".split()
KEYWORDS = {
    "sorted": ("key", "reverse"), "min": ("key", "default"), "max": ("key", "default"), "sum": ("start",),
    "enumerate": ("start",), "zip": ("strict",),
}


def nodes_of(file):
    return list(ast.walk(ast.parse(file.read_text(encoding="utf-8"))))


def bound_names(node):
    if isinstance(node, (ast.FunctionDef, ast.ClassDef)):
        return [node.name]
    if isinstance(node, ast.arg):
        return [node.arg]
    if isinstance(node, ast.Name) and isinstance(node.ctx, ast.Store):
        return [node.id]
    if isinstance(node, ast.Attribute):
        return [node.attr]
    return []


def parents_of(file):
    """Each node with the one it stands in."""
    return [(child, node) for node in nodes_of(file) for child in ast.iter_child_nodes(node)]


def called(node):
    """The name by which a call calls."""
    return node.func.id if isinstance(node.func, ast.Name) else getattr(node.func, "attr", None)


def is_plain(node):
    """Whether a value at a file's top is a plain one, with no list or dict within a list or dict."""
    if isinstance(node, (ast.Tuple, ast.List)):
        return all(is_plain(part) and not isinstance(part, (ast.List, ast.Dict)) for part in node.elts)
    if isinstance(node, ast.Dict):
        return all(is_plain(part) and not isinstance(part, (ast.List, ast.Dict)) for part in node.keys + node.values)
    return isinstance(node, (ast.Constant, ast.Name))


def imports_of(file):
    """From which file of the package each imported name comes."""
    found = {}
    for node in nodes_of(file):
        if isinstance(node, ast.ImportFrom):
            for name in node.names:
                found[name.asname or name.name] = PACKAGE / (node.module.removeprefix("cablehouse.") + ".py")
    return found


def top_names(file):
    """The names that a file binds at its top itself."""
    found = []
    for node in ast.parse(file.read_text(encoding="utf-8")).body:
        if isinstance(node, (ast.FunctionDef, ast.ClassDef)):
            found.append(node.name)
        if isinstance(node, ast.Assign):
            found.append(node.targets[0].id)
    return found


class TestForm(unittest.TestCase):
    def test_there_are_files_to_look_at(self):
        self.assertIn(PACKAGE / "__init__.py", FILES)

    def test_only_plain_files_lie_in_the_package(self):
        for path in PACKAGE.rglob("*"):
            if path.is_file() and "__pycache__" not in path.parts:
                self.assertRegex(path.name, r"\A[a-z0-9_]+\.py\Z")

    def test_signs_and_sizes(self):
        for file in FILES:
            text = file.read_text(encoding="utf-8")
            self.assertRegex(text, r"\A[ -~\n]*\Z")
            lines = text.split("\n")
            self.assertLessEqual(len(lines), 400)
            self.assertLessEqual(max(len(line) for line in lines), 120)
            for node in nodes_of(file):
                if isinstance(node, ast.FunctionDef):
                    self.assertLessEqual(node.end_lineno - node.lineno + 1, 40, node.name)

    def test_words_that_stand_nowhere(self):
        for file in FILES:
            text = file.read_text(encoding="utf-8")
            self.assertEqual(set(re.findall(r"\w+", text)) & set(NOWHERE), set())
            for word in NOT_WITHIN:
                self.assertNotIn(word, text)

    def test_statements_and_expressions(self):
        for file in FILES:
            for node in nodes_of(file):
                self.assertIn(type(node).__name__, ALLOWED, getattr(node, "lineno", None))
                if isinstance(node, ast.Constant):
                    self.assertIn(type(node.value), (int, str, bool, type(None)))
                if isinstance(node, ast.Assign):
                    self.assertEqual(len(node.targets), 1)
                    self.assertIsInstance(node.targets[0], (ast.Name, ast.Attribute, ast.Subscript))
                if isinstance(node, (ast.FunctionDef, ast.ClassDef)):
                    self.assertEqual(node.decorator_list, [])
                if isinstance(node, ast.BinOp) and isinstance(node.op, ast.Pow):
                    self.assertIsInstance(node.right, ast.Constant)
                if isinstance(node, (ast.For, ast.While)):
                    self.assertEqual(node.orelse, [])

    def test_imports_are_of_the_package(self):
        for file in FILES:
            for node in nodes_of(file):
                if isinstance(node, ast.ImportFrom):
                    self.assertEqual(node.level, 0)
                    self.assertTrue(node.module.startswith("cablehouse."))
                    self.assertNotIn("*", [name.name for name in node.names])

    def test_names(self):
        for file in FILES:
            nodes = nodes_of(file)
            for node in nodes:
                for name in bound_names(node):
                    self.assertTrue(name in DOUBLE or re.fullmatch(r"[A-Za-z][A-Za-z0-9_]*", name), name)
                if isinstance(node, (ast.Name, ast.arg)):
                    name = node.id if isinstance(node, ast.Name) else node.arg
                    self.assertTrue(name in OWN_NAMES or not hasattr(builtins, name), name)
                    if isinstance(node, ast.arg) or isinstance(node.ctx, ast.Store):
                        self.assertFalse(hasattr(builtins, name), name)

    def test_methods_of_python_s_own(self):
        own = set()
        for file in FILES:
            for node in nodes_of(file):
                if isinstance(node, ast.FunctionDef):
                    own.add(node.name)
        for file in FILES:
            for node in nodes_of(file):
                if isinstance(node, ast.Call) and isinstance(node.func, ast.Attribute):
                    self.assertIn(node.func.attr, own | set(OWN_METHODS))

    def test_no_name_is_a_method_and_a_value(self):
        methods, values = set(), set()
        for file in FILES:
            for node in nodes_of(file):
                if isinstance(node, ast.ClassDef):
                    methods |= {part.name for part in node.body if isinstance(part, ast.FunctionDef)}
                if isinstance(node, ast.Attribute) and isinstance(node.ctx, ast.Store):
                    values.add(node.attr)
        self.assertEqual(methods & values, set())

    def test_the_top_of_each_file(self):
        for file in FILES:
            body = ast.parse(file.read_text(encoding="utf-8")).body
            self.assertIsInstance(body[0].value.value, str)
            for node in body[1:]:
                self.assertIsInstance(node, (ast.ImportFrom, ast.FunctionDef, ast.ClassDef, ast.Assign))
                if isinstance(node, ast.Assign):
                    self.assertTrue(is_plain(node.value), node.targets[0].id)
            names = top_names(file) + list(imports_of(file))
            self.assertEqual(len(set(names)), len(names), file)

    def test_imports_are_from_the_defining_file_and_in_no_ring(self):
        drawn = {file: set(imports_of(file).values()) for file in FILES}
        for file in FILES:
            for name, source in imports_of(file).items():
                self.assertIn(name, top_names(source), file)
        while drawn:
            free = [file for file in drawn if not drawn[file] & set(drawn)]
            self.assertNotEqual(free, [])
            for file in free:
                drawn.pop(file)

    def test_imports_are_used(self):
        for file in FILES:
            used = {node.id for node in nodes_of(file) if isinstance(node, ast.Name)}
            self.assertEqual(set(imports_of(file)) - used, set(), file)

    def test_functions_and_classes(self):
        for file in FILES:
            for node in nodes_of(file):
                if isinstance(node, ast.FunctionDef):
                    self.assertIsNone(node.returns)
                    self.assertIsNotNone(node.name == "__init__" or ast.get_docstring(node), node.name)
                if isinstance(node, ast.arguments):
                    self.assertEqual((node.posonlyargs, node.kwonlyargs, node.vararg, node.kwarg), ([], [], None, None))
                if isinstance(node, ast.arg):
                    self.assertIsNone(node.annotation)
                if isinstance(node, ast.ClassDef):
                    self.assertLessEqual(len(node.bases), 1)
                    self.assertTrue(all(isinstance(part, (ast.Expr, ast.FunctionDef)) for part in node.body))
                    methods = [part.name for part in node.body if isinstance(part, ast.FunctionDef)]
                    self.assertEqual(len(set(methods)), len(methods))

    def test_locals_are_not_called_like_imports_or_classes(self):
        for file in FILES:
            taken = set(imports_of(file)) | {node.name for node in nodes_of(file) if isinstance(node, ast.ClassDef)}
            taken |= set(top_names(file))
            for top in ast.parse(file.read_text(encoding="utf-8")).body:
                if isinstance(top, (ast.FunctionDef, ast.ClassDef)):
                    for node in ast.walk(top):
                        if isinstance(node, ast.arg):
                            self.assertNotIn(node.arg, taken, file)
                        if isinstance(node, ast.Name) and isinstance(node.ctx, ast.Store):
                            self.assertNotIn(node.id, taken, file)

    def test_names_that_are_not_used(self):
        for file in FILES:
            for node in nodes_of(file):
                for name in bound_names(node) + ([node.id] if isinstance(node, ast.Name) else []):
                    self.assertNotIn(name, UNUSED, file)

    def test_refusals_are_taken_and_raised_by_name(self):
        for file in FILES:
            for node in nodes_of(file):
                if isinstance(node, ast.ExceptHandler):
                    taken = node.type.elts if isinstance(node.type, ast.Tuple) else [node.type]
                    for name in taken:
                        self.assertIn(name.id, NAMES + ("CableError",))
                if isinstance(node, ast.Raise):
                    self.assertIn(node.exc.func.id, NAMES)

    def test_is_stands_beside_none_true_and_false(self):
        for file in FILES:
            for node in nodes_of(file):
                if isinstance(node, ast.Compare):
                    for sign, right in zip(node.ops, node.comparators):
                        if isinstance(sign, (ast.Is, ast.IsNot)):
                            self.assertIn(getattr(right, "value", 0), (None, True, False))

    def test_keywords(self):
        own = {name for file in FILES for node in nodes_of(file) for name in bound_names(node)}
        for file in FILES:
            for node in nodes_of(file):
                if isinstance(node, ast.Call):
                    for keyword in node.keywords:
                        self.assertTrue(called(node) in own or keyword.arg in KEYWORDS.get(called(node), ()), file)

    def test_walked_at_once(self):
        for file in FILES:
            for node, parent in parents_of(file):
                if isinstance(node, ast.Call) and called(node) in WALKED:
                    walked = isinstance(parent, (ast.For, ast.comprehension)) and parent.iter is node
                    handed = isinstance(parent, ast.Call) and called(parent) in WALKERS and parent.args[0] is node
                    self.assertTrue(walked or handed, (file, node.lineno))

    def test_sets_are_not_kept(self):
        for file in FILES:
            for node, parent in parents_of(file):
                if isinstance(node, ast.Set) or isinstance(node, ast.Call) and called(node) == "set":
                    asked = isinstance(parent, ast.Compare)
                    handed = isinstance(parent, ast.Call) and called(parent) in ("sorted", "len") and not parent.keywords
                    self.assertTrue(asked or handed, (file, node.lineno))

    def test_texts_and_numbers(self):
        for file in FILES:
            for node, parent in parents_of(file):
                if isinstance(node, ast.FormattedValue):
                    self.assertIsInstance(node.value, ast.Name)
                    self.assertIsNone(node.format_spec)
                if isinstance(node, ast.Constant) and isinstance(node.value, str):
                    self.assertNotIn("%", node.value)
                if isinstance(node, ast.BinOp) and isinstance(node.op, ast.Pow):
                    self.assertLessEqual(node.right.value, 64)


if __name__ == "__main__":
    unittest.main()
