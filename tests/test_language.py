"""The rules of LANGUAGE.md that a short look at the files can tell, by their numbers."""

import ast
import builtins
import pathlib
import re
import unittest

ROOT = pathlib.Path(__file__).resolve().parent.parent
PACKAGE = ROOT / "joinedheaps"

BUILTINS = set("""len range enumerate zip min max sum abs sorted reversed int str bool bytes list tuple dict set
frozenset isinstance ord repr any all divmod Exception ValueError TypeError KeyError IndexError LookupError
ZeroDivisionError ArithmeticError OverflowError RuntimeError NotImplementedError AttributeError StopIteration
NotImplemented object float super property staticmethod classmethod""".split())

BARRED_WORDS = re.compile(
    r"\b(type|typing|typing_extensions|enum|Enum|IntEnum|StrEnum|Flag|IntFlag|Generic|Protocol|ABC|ABCMeta|namedtuple"
    r"|NamedTuple|TypedDict|TYPE_CHECKING|abstractmethod)\b|dataclass|overload|contextmanager")

BARRED_NODES = (ast.Global, ast.AsyncFunctionDef, ast.AsyncFor, ast.AsyncWith, ast.Await, ast.Import, ast.Div)


def files():
    return sorted(path for path in PACKAGE.rglob("*") if path.is_file() and "__pycache__" not in path.parts)


def module_name(path):
    return ".".join(path.relative_to(ROOT).with_suffix("").parts)


def sources():
    """Each file's name, text and syntax tree."""
    told = []
    for path in files():
        text = path.read_text(encoding="utf-8")
        told.append((str(path.relative_to(ROOT)), text, ast.parse(text)))
    return told


class Language(unittest.TestCase):
    def test_there_are_files(self):
        self.assertIn("joinedheaps.errors", [module_name(path) for path in files()])

    def test_l1_l14_files(self):
        for path in files():
            self.assertRegex(path.name, r"\A[a-z0-9_]+\.py\Z")
            self.assertTrue((path.parent / "__init__.py").is_file(), path)
            self.assertFalse(path.with_suffix("").is_dir(), path)

    def test_l10_l14_sizes_and_signs(self):
        for name, text, tree in sources():
            self.assertRegex(text, r"\A[ -~\n]*\Z", name)
            rows = text.split("\n")
            self.assertLessEqual(len(rows), 400, name)
            self.assertLessEqual(max(map(len, rows)), 120, name)
            for node in ast.walk(tree):
                if isinstance(node, ast.FunctionDef):
                    self.assertLessEqual(node.end_lineno - node.lineno + 1, 40, (name, node.name))

    def test_l2_l16_imports_name_the_file_that_defines_the_name(self):
        for name, text, tree in sources():
            for node in ast.walk(tree):
                if not isinstance(node, ast.ImportFrom) or node.module == "__future__":
                    continue
                self.assertIn(node, tree.body, name)
                self.assertEqual(node.level, 0, name)
                source = ROOT.joinpath(*node.module.split(".")).with_suffix(".py")
                defined = {part.name for part in ast.parse(source.read_text()).body
                           if isinstance(part, (ast.FunctionDef, ast.ClassDef))}
                defined |= {target.id for part in ast.parse(source.read_text()).body
                            if isinstance(part, ast.Assign) for target in part.targets}
                for alias in node.names:
                    self.assertIn(alias.name, defined, name)

    def test_l3_module_level(self):
        allowed = (ast.ImportFrom, ast.FunctionDef, ast.ClassDef, ast.Assign)
        for name, text, tree in sources():
            for at, node in enumerate(tree.body):
                docstring = at == 0 and isinstance(node, ast.Expr) and isinstance(node.value, ast.Constant)
                self.assertTrue(docstring or isinstance(node, allowed), (name, node.lineno))

    def test_l6_l7_barred_statements_and_expressions(self):
        for name, text, tree in sources():
            for node in ast.walk(tree):
                self.assertNotIsInstance(node, BARRED_NODES, name)
                if isinstance(node, ast.Constant):
                    self.assertNotIsInstance(node.value, (float, complex), name)
                    if isinstance(node.value, str):
                        self.assertNotIn("%", node.value, name)

    def test_l8_l12_names(self):
        for name, text, tree in sources():
            for node in ast.walk(tree):
                if isinstance(node, ast.Name):
                    self.assertFalse(node.id.startswith("_"), (name, node.id))
                    if hasattr(builtins, node.id):
                        self.assertIn(node.id, BUILTINS, name)
                        self.assertIsInstance(node.ctx, ast.Load, (name, node.id))
                if isinstance(node, ast.arg):
                    self.assertFalse(node.arg.startswith("_") or hasattr(builtins, node.arg), (name, node.arg))

    def test_l17_barred_words(self):
        for name, text, tree in sources():
            self.assertIsNone(BARRED_WORDS.search(text), name)

    def test_l20_is(self):
        for name, text, tree in sources():
            for node in ast.walk(tree):
                if isinstance(node, ast.Compare):
                    for sign, other in zip(node.ops, node.comparators):
                        if isinstance(sign, (ast.Is, ast.IsNot)):
                            self.assertIn(ast.unparse(other), ("None", "True", "False"), name)


if __name__ == "__main__":
    unittest.main()
