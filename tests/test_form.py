"""The package's form: no clock, chance or files [1], and the plainest rules of the language it keeps to."""

import ast
import pathlib
import re
import unittest

PACKAGE = pathlib.Path(__file__).resolve().parent.parent / "fewstones"

PYTHONS_OWN = set("""len range enumerate zip min max sum abs sorted reversed int str bool list tuple dict set frozenset
isinstance ord repr any all divmod Exception ValueError TypeError KeyError IndexError LookupError ZeroDivisionError
ArithmeticError OverflowError RuntimeError NotImplementedError AttributeError StopIteration""".split())

OUT = (ast.With, ast.Match, ast.Delete, ast.Global, ast.Nonlocal, ast.Assert, ast.Yield, ast.YieldFrom, ast.Await,
       ast.AsyncFunctionDef, ast.AsyncFor, ast.AsyncWith, ast.SetComp, ast.DictComp, ast.GeneratorExp, ast.NamedExpr,
       ast.Starred, ast.Div, ast.Import)

WORDS_OUT = re.compile(r"\b(type|typing|typing_extensions|enum|Enum|IntEnum|StrEnum|Flag|IntFlag|Generic|Protocol|ABC"
                       r"|ABCMeta|namedtuple|NamedTuple|TypedDict|TYPE_CHECKING|abstractmethod)\b"
                       r"|dataclass|overload|contextmanager")


def sources():
    return [(path.name, path.read_text(encoding="utf-8")) for path in sorted(PACKAGE.glob("*.py"))]


def walked():
    for name, source in sources():
        tree = ast.parse(source)
        for node in ast.walk(tree):
            yield f"{name}:{getattr(node, 'lineno', 0)}", tree, node


def names_bound(tree):
    bound = set()
    for node in ast.walk(tree):
        if isinstance(node, (ast.FunctionDef, ast.ClassDef)):
            bound.add(node.name)
        elif isinstance(node, ast.arg):
            bound.add(node.arg)
        elif isinstance(node, ast.alias):
            bound.add(node.asname or node.name)
        elif isinstance(node, ast.ExceptHandler) and node.name:
            bound.add(node.name)
        elif isinstance(node, ast.Name) and isinstance(node.ctx, ast.Store):
            bound.add(node.id)
    return bound


class Form(unittest.TestCase):
    def test_there_are_files(self):
        self.assertLessEqual({"__init__.py", "errors.py", "layings.py", "sums.py"}, {name for name, _ in sources()})

    def test_nothing_else_lies_there(self):
        for path in PACKAGE.iterdir():
            if path.name != "__pycache__":
                self.assertRegex(path.name, r"^[a-z0-9_]+\.py$")

    def test_signs_rows_and_words(self):
        for name, source in sources():
            self.assertLessEqual(len(source.splitlines()), 400, name)
            for number, row in enumerate(source.split("\n"), start=1):
                self.assertRegex(row, r"^[ -~]{0,120}\Z", f"{name}:{number}")
                self.assertIsNone(WORDS_OUT.search(row), f"{name}:{number}")

    def test_only_its_own_modules_are_imported(self):
        for where, _, node in walked():
            if isinstance(node, ast.ImportFrom):
                self.assertEqual(node.level, 0, where)
                self.assertRegex(node.module, r"^(fewstones\.[a-z0-9_]+|__future__)$", where)

    def test_no_other_name_of_pythons_own(self):
        for where, tree, node in walked():
            if isinstance(node, ast.Name) and isinstance(node.ctx, ast.Load):
                self.assertIn(node.id, names_bound(tree) | PYTHONS_OWN, where)

    def test_no_form_that_is_out(self):
        for where, _, node in walked():
            self.assertNotIsInstance(node, OUT, where)
            if isinstance(node, ast.Constant):
                self.assertNotIsInstance(node.value, (float, complex, bytes), where)

    def test_functions_are_short_and_plain(self):
        for where, _, node in walked():
            if isinstance(node, ast.FunctionDef):
                self.assertLessEqual(node.end_lineno - node.lineno + 1, 40, where)
                self.assertEqual(node.decorator_list, [], where)

    def test_no_power_but_a_written_one(self):
        for where, _, node in walked():
            if isinstance(node, ast.BinOp) and isinstance(node.op, ast.Pow):
                self.assertIsInstance(node.right, ast.Constant, where)
                self.assertIn(node.right.value, range(65), where)


if __name__ == "__main__":
    unittest.main()
