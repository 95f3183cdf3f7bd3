"""The form of the package's own files: those rules of the language document that a walk through the code can see."""

import ast
import pathlib
import re
import unittest

PACKAGE = pathlib.Path(__file__).resolve().parent.parent / "claimtables"
FILES = sorted(PACKAGE.glob("*.py"))

OWN = set(
    "len range enumerate zip min max sum abs sorted reversed int str bool list tuple dict set isinstance ord repr any all"
    " divmod Exception ValueError KeyError IndexError LookupError ZeroDivisionError StopIteration".split()
)
METHODS = set(
    "append clear copy count endswith extend find get index insert isalnum isalpha isdigit islower isspace isupper items"
    " join keys ljust lower lstrip partition pop remove replace reverse rfind rjust rpartition rsplit rstrip setdefault"
    " split splitlines startswith strip update upper values zfill bit_length".split()
)
WORDS = (
    "type typing typing_extensions enum Enum IntEnum StrEnum Flag IntFlag Generic Protocol ABC ABCMeta namedtuple NamedTuple"
    " TypedDict TYPE_CHECKING abstractmethod".split()
)
STATEMENTS = (
    ast.With, ast.Match, ast.Delete, ast.Global, ast.Nonlocal, ast.Assert, ast.Yield, ast.YieldFrom, ast.AsyncFunctionDef,
    ast.AsyncFor, ast.AsyncWith, ast.Await, ast.NamedExpr, ast.GeneratorExp, ast.SetComp, ast.DictComp, ast.Starred, ast.Div,
    ast.Import, ast.AnnAssign, ast.Is, ast.IsNot,
)


def walked():
    for path in FILES:
        text = path.read_text(encoding="utf-8")
        for node in ast.walk(ast.parse(text)):
            yield path.name, node


def bound_names(node):
    """The names that this node gives a meaning to."""
    if isinstance(node, ast.Name) and isinstance(node.ctx, ast.Store):
        return [node.id]
    if isinstance(node, ast.arg):
        return [node.arg]
    if isinstance(node, (ast.FunctionDef, ast.ClassDef)):
        return [node.name]
    return []


class Language(unittest.TestCase):
    def test_the_folder_holds_plain_files_alone(self):
        names = sorted(path.name for path in PACKAGE.iterdir() if path.name != "__pycache__")
        self.assertEqual(names, [path.name for path in FILES])
        self.assertIn("__init__.py", names)
        for name in names:
            self.assertRegex(name, r"^(__init__|[a-z][a-z0-9_]*)\.py$")

    def test_signs_lines_and_words(self):
        for path in FILES:
            text = path.read_text(encoding="utf-8")
            self.assertRegex(text, r"\A[ -~\n]*\Z")
            lines = text.split("\n")
            self.assertLessEqual(len(lines), 399)
            self.assertLessEqual(max(len(line) for line in lines), 120)
            for word in WORDS:
                self.assertIsNone(re.search(rf"\b{word}\b", text), (path.name, word))

    def test_functions_are_short_and_plain(self):
        for name, node in walked():
            if isinstance(node, ast.FunctionDef):
                self.assertLessEqual(node.end_lineno - node.lineno + 1, 40, (name, node.name))
                self.assertFalse(node.decorator_list or node.args.vararg or node.args.kwarg or node.args.kwonlyargs)

    def test_statements_and_expressions(self):
        for name, node in walked():
            if isinstance(node, ast.Compare) and isinstance(node.ops[0], (ast.Is, ast.IsNot)):
                self.assertTrue(isinstance(node.comparators[0], ast.Constant), (name, node.lineno))
            elif not isinstance(node, (ast.Is, ast.IsNot)):
                self.assertNotIsInstance(node, STATEMENTS, (name, getattr(node, "lineno", 0)))
            if isinstance(node, (ast.For, ast.While)):
                self.assertEqual(node.orelse, [], (name, node.lineno))
            if isinstance(node, ast.Assign):
                self.assertEqual(len(node.targets), 1, (name, node.lineno))
                self.assertNotIsInstance(node.targets[0], (ast.Tuple, ast.List), (name, node.lineno))
            if isinstance(node, ast.ListComp):
                self.assertEqual(len(node.generators), 1)
                self.assertLessEqual(len(node.generators[0].ifs), 1)
            if isinstance(node, ast.Constant):
                self.assertNotIsInstance(node.value, (float, bytes, complex))
                self.assertFalse(isinstance(node.value, str) and "%" in node.value)

    def test_imports_are_the_packages_own_by_full_name(self):
        for name, node in walked():
            if isinstance(node, ast.ImportFrom):
                self.assertRegex(node.module, r"^claimtables\.[a-z]+$")
                self.assertEqual(node.level, 0)
                path = PACKAGE / (node.module.split(".")[1] + ".py")
                there = [each.name for each in ast.parse(path.read_text()).body if hasattr(each, "name")]
                for alias in node.names:
                    self.assertIn(alias.name, there, name)
                    self.assertIsNone(alias.asname)

    def test_names(self):
        builtin = set(dir(__import__("builtins")))
        methods = METHODS | {node.name for name, node in walked() if isinstance(node, ast.FunctionDef)}
        for name, node in walked():
            for bound in bound_names(node):
                self.assertNotIn(bound, builtin, name)
                self.assertTrue(bound == "__init__" or re.fullmatch(r"[A-Za-z][A-Za-z0-9_]*", bound), (name, bound))
            if isinstance(node, ast.Name) and isinstance(node.ctx, ast.Load) and node.id in builtin:
                self.assertIn(node.id, OWN, (name, node.lineno))
            if isinstance(node, ast.Call) and isinstance(node.func, ast.Attribute):
                self.assertIn(node.func.attr, methods, (name, node.lineno))

    def test_locals_are_not_called_like_imports_or_classes(self):
        for path in FILES:
            tree = ast.parse(path.read_text(encoding="utf-8"))
            taken = {alias.name for node in tree.body if isinstance(node, ast.ImportFrom) for alias in node.names}
            taken |= {node.name for node in tree.body if isinstance(node, ast.ClassDef)}
            for node in ast.walk(tree):
                if isinstance(node, (ast.Name, ast.arg)):
                    self.assertFalse(taken & set(bound_names(node)), (path.name, node.lineno))


if __name__ == "__main__":
    unittest.main()
