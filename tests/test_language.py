"""The package keeps to the rules of LANGUAGE.md that can be seen file by file (the rule's number at each check)."""

import ast
import builtins
import pathlib
import re
import unittest

PACKAGE = pathlib.Path(__file__).resolve().parent.parent / "outlineward"

OWN_NAMES = set(
    "len range enumerate zip min max sum abs sorted reversed int str bool bytes list tuple dict set isinstance ord"
    " repr any all divmod Exception ValueError TypeError KeyError IndexError LookupError ZeroDivisionError"
    " ArithmeticError OverflowError RuntimeError NotImplementedError AttributeError StopIteration".split()
)
DUNDERS = {"__init__", "__eq__", "__repr__", "__str__", "__len__"}
METHODS = set(
    "append clear copy count endswith extend find get index insert isalnum isalpha isdigit islower isspace isupper"
    " items join keys ljust lower lstrip partition pop remove replace reverse rfind rjust rpartition rsplit rstrip"
    " setdefault split splitlines startswith strip update upper values zfill bit_length sort add discard"
    " title capitalize swapcase casefold center expandtabs removeprefix removesuffix rindex isascii isdecimal"
    " isnumeric istitle isidentifier isprintable __init__".split()
)
OUTSIDE = (
    ast.With, ast.Match, ast.Global, ast.Nonlocal, ast.Yield, ast.YieldFrom, ast.AsyncFunctionDef, ast.AsyncFor,
    ast.AsyncWith, ast.Await, ast.GeneratorExp, ast.NamedExpr, ast.Div, ast.MatMult, ast.Import,
)
UNUSED_WORDS = re.compile(
    r"\b(type|typing|typing_extensions|enum|Enum|IntEnum|StrEnum|Flag|IntFlag|Generic|Protocol|ABC|ABCMeta"
    r"|namedtuple|NamedTuple|TypedDict|TYPE_CHECKING|abstractmethod)\b|dataclass|overload|contextmanager"
)


def sources():
    return [(path, path.read_text(encoding="utf-8")) for path in sorted(PACKAGE.glob("*.py"))]


def nodes():
    return [(path.name, node) for path, text in sources() for node in ast.walk(ast.parse(text))]


def docstrings(tree):
    told = []
    for node in ast.walk(tree):
        if isinstance(node, (ast.Module, ast.ClassDef, ast.FunctionDef)) and ast.get_docstring(node) is not None:
            told.append(node.body[0])
    return told


def own_tops(tree):
    """The names that a file defines itself at its top."""
    told = [node.name for node in tree.body if isinstance(node, (ast.FunctionDef, ast.ClassDef))]
    for node in tree.body:
        if isinstance(node, ast.Assign):
            told.extend(target.id for target in node.targets)
    return told


def given_names(tree):
    """Parameters, locals and defs within defs, each with its line."""
    told = []
    for node in ast.walk(tree):
        if isinstance(node, ast.FunctionDef):
            for inner in ast.walk(node):
                if isinstance(inner, ast.arg):
                    told.append((inner.arg, inner.lineno))
                elif isinstance(inner, ast.Name) and not isinstance(inner.ctx, ast.Load):
                    told.append((inner.id, inner.lineno))
                elif isinstance(inner, ast.FunctionDef) and inner is not node:
                    told.append((inner.name, inner.lineno))
    return told


def drawn_files(tree):
    return [node.module.split(".")[1] for node in tree.body if isinstance(node, ast.ImportFrom)]


def is_walker(node):
    """Whether it is one of the calls that are walked on the spot."""
    if not isinstance(node, ast.Call):
        return False
    if isinstance(node.func, ast.Name):
        return node.func.id in ("zip", "enumerate", "reversed", "range")
    return isinstance(node.func, ast.Attribute) and node.func.attr in ("items", "keys", "values")


def walks_on_the_spot(parent, node):
    if isinstance(parent, (ast.For, ast.comprehension)):
        return parent.iter is node
    walkers = ("list", "tuple", "dict", "sorted", "sum", "any", "all", "enumerate", "zip", "bytes", "min", "max")
    if isinstance(parent, ast.Call) and isinstance(parent.func, ast.Name):
        return parent.func.id in walkers and parent.args[0] is node
    return False


class Language(unittest.TestCase):
    def test_l1_l14_files(self):
        names = [path.name for path in PACKAGE.iterdir() if path.name != "__pycache__"]
        self.assertIn("__init__.py", names)
        for name in names:
            self.assertRegex(name, r"^(__init__|__main__|[a-z][a-z0-9_]*)\.py$")

    def test_l10_l14_l17_signs_words_and_sizes(self):
        for path, text in sources():
            self.assertRegex(text, r"\A[ -~\n]*\Z", path.name)
            self.assertIsNone(UNUSED_WORDS.search(text), path.name)
            rows = text.splitlines()
            self.assertLessEqual(len(rows), 400, path.name)
            self.assertLessEqual(max(len(row) for row in rows), 120, path.name)

    def test_l10_functions(self):
        for name, node in nodes():
            if isinstance(node, ast.FunctionDef):
                self.assertLessEqual(node.end_lineno - node.lineno + 1, 40, (name, node.name))

    def test_l2_l16_imports(self):
        files = {path.stem: ast.parse(text) for path, text in sources()}
        for name, node in nodes():
            if isinstance(node, ast.ImportFrom):
                self.assertEqual(node.level, 0, name)
                self.assertRegex(node.module, r"^outlineward\.[a-z_]+$", name)
                tops = own_tops(files[node.module.split(".")[1]])
                for drawn in node.names:
                    self.assertIn(drawn.name, tops, name)

    def test_l15_names_of_tops(self):
        for path, text in sources():
            tree = ast.parse(text)
            drawn = [alias.asname or alias.name for node in tree.body if isinstance(node, ast.ImportFrom)
                     for alias in node.names]
            tops = own_tops(tree) + drawn
            self.assertEqual(len(tops), len(set(tops)), path.name)
            kept_free = drawn + [node.name for node in tree.body if isinstance(node, ast.ClassDef)]
            for name, line in given_names(tree):
                self.assertNotIn(name, kept_free, (path.name, line))

    def test_l16_no_two_files_draw_from_one_another(self):
        drawn = {path.stem: drawn_files(ast.parse(text)) for path, text in sources()}
        while drawn:
            free = [name for name in drawn if not any(other in drawn for other in drawn[name])]
            self.assertNotEqual(free, [], drawn)
            for name in free:
                del drawn[name]

    def test_names_that_are_drawn_are_used(self):
        for path, text in sources():
            tree = ast.parse(text)
            used = {node.id for node in ast.walk(tree) if isinstance(node, ast.Name)}
            for node in tree.body:
                if isinstance(node, ast.ImportFrom):
                    for alias in node.names:
                        self.assertIn(alias.name, used, path.name)

    def test_l18_l26_values_of_objects(self):
        found = nodes()
        methods = {node.func for name, node in found if isinstance(node, ast.Call)}
        values = [(name, node) for name, node in found if isinstance(node, ast.Attribute) and node not in methods]
        given = {node.attr for name, node in values if isinstance(node.ctx, ast.Store)}
        free = {"count", "index", "title", "find", "get", "join", "lower", "upper", "split", "strip", "copy", "add"}
        for value in given:
            for kind in (str, int, list, dict, set, bytes, tuple):
                self.assertFalse(hasattr(kind, value) and value not in free, value)
        for name, node in values:
            self.assertIn(node.attr, given, (name, node.lineno))

    def test_l23_walked_at_once(self):
        for name, parent in nodes():
            for node in ast.iter_child_nodes(parent):
                if is_walker(node):
                    self.assertTrue(walks_on_the_spot(parent, node), (name, node.lineno))

    def test_l3_tops(self):
        for path, text in sources():
            tree = ast.parse(text)
            for node in tree.body:
                if node not in docstrings(tree):
                    allowed = (ast.ImportFrom, ast.FunctionDef, ast.ClassDef, ast.Assign)
                    self.assertIsInstance(node, allowed, (path.name, node.lineno))

    def test_l4_l6_l7_forms(self):
        for name, node in nodes():
            where = (name, getattr(node, "lineno", None))
            self.assertNotIsInstance(node, OUTSIDE, where)
            if isinstance(node, (ast.FunctionDef, ast.ClassDef)):
                self.assertEqual(node.decorator_list, [], where)
            if isinstance(node, ast.arguments):
                self.assertEqual((node.vararg, node.kwarg, node.posonlyargs), (None, None, []), where)
            if isinstance(node, (ast.For, ast.While)):
                self.assertEqual(node.orelse, [], where)
            if isinstance(node, ast.Constant):
                self.assertNotIsInstance(node.value, (float, complex), where)

    def test_l8_l12_names(self):
        for path, text in sources():
            tree = ast.parse(text)
            bound = set()
            for node in ast.walk(tree):
                if isinstance(node, (ast.FunctionDef, ast.ClassDef)):
                    bound.add(node.name)
                elif isinstance(node, ast.arg):
                    bound.add(node.arg)
                elif isinstance(node, ast.Name) and not isinstance(node.ctx, ast.Load):
                    bound.add(node.id)
                elif isinstance(node, ast.alias):
                    bound.add(node.asname or node.name)
                elif isinstance(node, ast.ExceptHandler) and node.name:
                    bound.add(node.name)
            for name in bound - DUNDERS:
                self.assertRegex(name, r"^[A-Za-z][A-Za-z0-9_]*$", path.name)
                self.assertNotIn(name, dir(builtins), path.name)
            for node in ast.walk(tree):
                if isinstance(node, ast.Name) and isinstance(node.ctx, ast.Load):
                    self.assertIn(node.id, bound | OWN_NAMES, (path.name, node.lineno))

    def test_l20_is(self):
        for name, node in nodes():
            if isinstance(node, ast.Compare):
                for sign, right in zip(node.ops, node.comparators):
                    if isinstance(sign, (ast.Is, ast.IsNot)):
                        self.assertIsInstance(right, ast.Constant, (name, node.lineno))
                        self.assertIn(right.value, [None, True, False], (name, node.lineno))

    def test_l25_methods(self):
        own = {node.name for name, node in nodes() if isinstance(node, ast.FunctionDef)}
        for name, node in nodes():
            if isinstance(node, ast.Call) and isinstance(node.func, ast.Attribute):
                self.assertIn(node.func.attr, METHODS | own, (name, node.lineno))

    def test_l27_texts(self):
        for name, node in nodes():
            if isinstance(node, ast.Constant) and isinstance(node.value, str):
                self.assertNotIn("%", node.value, (name, node.lineno))


if __name__ == "__main__":
    unittest.main()
