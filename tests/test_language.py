"""The package keeps to a small part of Python; some of the rules that the code itself shows are looked at here."""

import ast
import builtins
import re
import unittest
from pathlib import Path

PACKAGE = Path(__file__).resolve().parent.parent / "cellpatches"

OWN_NAMES = set("""
len range enumerate zip min max sum abs sorted reversed int str bool list tuple dict set frozenset isinstance ord
repr any all divmod Exception ValueError TypeError KeyError IndexError LookupError ZeroDivisionError ArithmeticError
OverflowError RuntimeError NotImplementedError AttributeError StopIteration
""".split())

METHODS = set("""
append clear copy count endswith extend find get index insert isalnum isalpha isdigit islower isspace isupper items
join keys ljust lower lstrip partition pop remove replace reverse rfind rjust rpartition rsplit rstrip setdefault
split splitlines startswith strip update upper values zfill bit_length
""".split())

WORDS = re.compile(
    r"\b(type|typing|typing_extensions|enum|Enum|IntEnum|StrEnum|Flag|IntFlag|Generic|Protocol|ABC|ABCMeta|"
    r"namedtuple|NamedTuple|TypedDict|TYPE_CHECKING|abstractmethod)\b|dataclass|overload|contextmanager"
)

LEFT_OUT = (
    ast.With, ast.Match, ast.Delete, ast.Global, ast.Nonlocal, ast.Assert, ast.Yield, ast.YieldFrom, ast.Await,
    ast.AsyncFunctionDef, ast.AsyncFor, ast.AsyncWith, ast.SetComp, ast.DictComp, ast.GeneratorExp, ast.NamedExpr,
    ast.Starred, ast.Div, ast.Import, ast.AnnAssign,
)


def files():
    return sorted(path for path in PACKAGE.rglob("*") if "__pycache__" not in path.parts)


def trees():
    return [(path.name, ast.parse(path.read_text(encoding="utf-8"))) for path in files()]


def nodes():
    return [(f"{name}:{getattr(node, 'lineno', 0)}", node) for name, tree in trees() for node in ast.walk(tree)]


class TestFiles(unittest.TestCase):
    def test_plain_files_alone(self):
        self.assertIn(PACKAGE / "__init__.py", files())
        for path in files():
            self.assertRegex(path.name, r"^[a-z0-9_]+\.py$")

    def test_signs_and_lengths(self):
        for path in files():
            text = path.read_bytes().decode("utf-8")
            self.assertRegex(text, r"\A[ -~\n]*\Z", path.name)
            self.assertLessEqual(len(text.splitlines()), 400, path.name)
            for line in text.splitlines():
                self.assertLessEqual(len(line), 120, (path.name, line))
                self.assertIsNone(WORDS.search(line), (path.name, line))


class TestCode(unittest.TestCase):
    def test_what_is_left_out(self):
        for place, node in nodes():
            self.assertNotIsInstance(node, LEFT_OUT, place)
            if isinstance(node, ast.Constant):
                self.assertNotIsInstance(node.value, (float, bytes, complex), place)
            if isinstance(node, ast.ListComp):
                self.assertEqual(len(node.generators), 1, place)
                self.assertLessEqual(len(node.generators[0].ifs), 1, place)
            if isinstance(node, (ast.For, ast.While)):
                self.assertEqual(node.orelse, [], place)
            if isinstance(node, ast.Try):
                self.assertEqual(node.finalbody, [], place)
            if isinstance(node, ast.Assign):
                self.assertEqual(len(node.targets), 1, place)

    def test_is_beside_none_true_and_false_alone(self):
        for place, node in nodes():
            if isinstance(node, ast.Compare):
                for sign, right in zip(node.ops, node.comparators):
                    if isinstance(sign, (ast.Is, ast.IsNot)):
                        self.assertIn(getattr(right, "value", 0), (None, True, False), place)

    def test_functions(self):
        for place, node in nodes():
            if isinstance(node, (ast.FunctionDef, ast.ClassDef)):
                self.assertEqual(node.decorator_list, [], place)
            if isinstance(node, ast.FunctionDef):
                self.assertLessEqual(node.end_lineno - node.lineno + 1, 40, place)
                self.assertIsNone(node.args.vararg, place)
                self.assertIsNone(node.args.kwarg, place)
                self.assertEqual(node.args.kwonlyargs + node.args.posonlyargs, [], place)

    def test_names(self):
        for place, node in nodes():
            if isinstance(node, ast.Name) and hasattr(builtins, node.id):
                self.assertIn(node.id, OWN_NAMES, place)
                self.assertIsInstance(node.ctx, ast.Load, place)
            if isinstance(node, ast.Name):
                self.assertFalse(node.id.startswith("_"), place)
            if isinstance(node, ast.arg):
                self.assertFalse(node.arg.startswith("_") or hasattr(builtins, node.arg), place)

    def test_imports(self):
        for name, tree in trees():
            for node in ast.walk(tree):
                if isinstance(node, ast.ImportFrom):
                    self.assertEqual(node.level, 0, name)
                    self.assertTrue(node.module.startswith("cellpatches."), name)
                    self.assertIn(node, tree.body, name)
                    self.assertNotIn("*", [alias.name for alias in node.names], name)

    def test_imports_come_from_where_they_are_defined(self):
        defined = {}
        for name, tree in trees():
            names = {node.name for node in tree.body if isinstance(node, (ast.FunctionDef, ast.ClassDef))}
            for node in tree.body:
                if isinstance(node, ast.Assign):
                    names |= {target.id for target in node.targets}
            defined["cellpatches." + name[:-3]] = names
        for name, tree in trees():
            for node in tree.body:
                if isinstance(node, ast.ImportFrom):
                    for alias in node.names:
                        self.assertIn(alias.name, defined[node.module], (name, alias.name))

    def test_no_two_files_draw_from_one_another(self):
        drawn = {}
        for name, tree in trees():
            drawn["cellpatches." + name[:-3]] = {n.module for n in tree.body if isinstance(n, ast.ImportFrom)}
        while drawn:
            free = [name for name in drawn if not drawn[name] & set(drawn)]
            self.assertTrue(free, sorted(drawn))
            for name in free:
                del drawn[name]

    def test_imports_are_used_and_not_hidden(self):
        for name, tree in trees():
            imported = {alias.name for n in tree.body if isinstance(n, ast.ImportFrom) for alias in n.names}
            read = set()
            for node in ast.walk(tree):
                if isinstance(node, ast.arg):
                    self.assertNotIn(node.arg, imported, name)
                if isinstance(node, ast.Name) and isinstance(node.ctx, ast.Store):
                    self.assertNotIn(node.id, imported, name)
                if isinstance(node, ast.Name) and isinstance(node.ctx, ast.Load):
                    read.add(node.id)
            self.assertEqual(imported - read, set(), name)

    def test_methods(self):
        own = {node.name for _, node in nodes() if isinstance(node, ast.FunctionDef)}
        for place, node in nodes():
            if isinstance(node, ast.Call) and isinstance(node.func, ast.Attribute):
                self.assertIn(node.func.attr, METHODS | own, place)


def methods_of(node):
    return [part.name for part in node.body if isinstance(part, ast.FunctionDef)]


class TestClasses(unittest.TestCase):
    def classes(self):
        return [(place, node) for place, node in nodes() if isinstance(node, ast.ClassDef)]

    def test_bodies(self):
        for place, node in self.classes():
            self.assertLessEqual(len(node.bases), 1, place)
            self.assertEqual(node.keywords, [], place)
            for part in node.body:
                self.assertIsInstance(part, (ast.FunctionDef, ast.Pass), place)
            self.assertEqual(len(set(methods_of(node))), len(methods_of(node)), place)

    def test_names_of_methods_and_values(self):
        attributes = [node for _, node in nodes() if isinstance(node, ast.Attribute)]
        values = {node.attr for node in attributes if isinstance(node.ctx, ast.Store)}
        methods = {name for _, node in self.classes() for name in methods_of(node)}
        self.assertEqual(values & methods, set())
        pythons_own = {name for kind in (str, int, list, dict, set, bytes, tuple) for name in dir(kind)}
        self.assertEqual((values | methods) & pythons_own, {"__init__"})
        for name in values | methods - {"__init__"}:
            self.assertRegex(name, "^[a-z][a-z0-9_]*$")


if __name__ == "__main__":
    unittest.main()
