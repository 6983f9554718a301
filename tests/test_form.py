"""The package's form: no clock, chance or files [1], and the plainest rules of the language it keeps to."""

import ast
import builtins
import pathlib
import re
import unittest

PACKAGE = pathlib.Path(__file__).resolve().parent.parent / "fewstones"

PYTHONS_OWN = set("""len range enumerate zip min max sum abs sorted reversed int str bool list tuple dict set frozenset
isinstance ord repr any all divmod Exception ValueError TypeError KeyError IndexError LookupError ZeroDivisionError
ArithmeticError OverflowError RuntimeError NotImplementedError AttributeError StopIteration""".split())

OUT = (ast.With, ast.Match, ast.Delete, ast.Global, ast.Nonlocal, ast.Assert, ast.Yield, ast.YieldFrom, ast.Await,
       ast.AsyncFunctionDef, ast.AsyncFor, ast.AsyncWith, ast.SetComp, ast.DictComp, ast.GeneratorExp, ast.NamedExpr,
       ast.Starred, ast.Div, ast.Import)

WORDS_OUT = re.compile(r"\b(type|typing|typing_extensions|enum|Enum|IntEnum|StrEnum|Flag|IntFlag|Generic|Protocol|ABC"
                       r"|ABCMeta|namedtuple|NamedTuple|TypedDict|TYPE_CHECKING|abstractmethod)\b"
                       r"|dataclass|overload|contextmanager")


METHODS = set("""append clear copy count endswith extend find get index insert isalnum isalpha isdigit islower isspace
isupper items join keys ljust lower lstrip partition pop remove replace reverse rfind rjust rpartition rsplit rstrip
setdefault split splitlines startswith strip update upper values zfill bit_length""".split())

NAMES_OUT = set("""register mro elements open input version_info with_traceback add_note format format_map
sort args encode""".split())


def sources():
    return [(path.name, path.read_text(encoding="utf-8")) for path in sorted(PACKAGE.glob("*.py"))]


def walked():
    for name, source in sources():
        tree = ast.parse(source)
        for node in ast.walk(tree):
            yield f"{name}:{getattr(node, 'lineno', 0)}", tree, node


def names_bound(tree):
    bound = set()
    for node in ast.walk(tree):
        if isinstance(node, (ast.FunctionDef, ast.ClassDef)):
            bound.add(node.name)
        elif isinstance(node, ast.arg):
            bound.add(node.arg)
        elif isinstance(node, ast.alias):
            bound.add(node.asname or node.name)
        elif isinstance(node, ast.ExceptHandler) and node.name:
            bound.add(node.name)
        elif isinstance(node, ast.Name) and isinstance(node.ctx, ast.Store):
            bound.add(node.id)
    return bound


def top_names(tree):
    found = []
    for node in tree.body:
        if isinstance(node, (ast.FunctionDef, ast.ClassDef)):
            found.append(node.name)
        elif isinstance(node, ast.ImportFrom):
            found += [alias.asname or alias.name for alias in node.names]
        elif isinstance(node, ast.Assign):
            found.append(node.targets[0].id)
    return found


def own_attributes():
    """The methods and values of the package's own classes."""
    found = set()
    for _, _, node in walked():
        if isinstance(node, ast.ClassDef):
            found |= {part.name for part in node.body if isinstance(part, ast.FunctionDef)}
        elif isinstance(node, ast.Attribute) and isinstance(node.ctx, ast.Store):
            found.add(node.attr)
    return found


class Form(unittest.TestCase):
    def test_there_are_files(self):
        self.assertLessEqual({"__init__.py", "errors.py", "layings.py", "sums.py", "plans.py", "notes.py", "scale.py"},
                             {name for name, _ in sources()})

    def test_nothing_else_lies_there(self):
        for path in PACKAGE.iterdir():
            if path.name != "__pycache__":
                self.assertRegex(path.name, r"^[a-z0-9_]+\.py$")

    def test_signs_rows_and_words(self):
        for name, source in sources():
            self.assertLessEqual(len(source.splitlines()), 400, name)
            for number, row in enumerate(source.split("\n"), start=1):
                self.assertRegex(row, r"^[ -~]{0,120}\Z", f"{name}:{number}")
                self.assertIsNone(WORDS_OUT.search(row), f"{name}:{number}")

    def test_only_its_own_modules_are_imported(self):
        for where, _, node in walked():
            if isinstance(node, ast.ImportFrom):
                self.assertEqual(node.level, 0, where)
                self.assertRegex(node.module, r"^(fewstones\.[a-z0-9_]+|__future__)$", where)

    def test_no_other_name_of_pythons_own(self):
        for where, tree, node in walked():
            if isinstance(node, ast.Name) and isinstance(node.ctx, ast.Load):
                self.assertIn(node.id, names_bound(tree) | PYTHONS_OWN, where)

    def test_no_form_that_is_out(self):
        for where, _, node in walked():
            self.assertNotIsInstance(node, OUT, where)
            if isinstance(node, ast.Constant):
                self.assertNotIsInstance(node.value, (float, complex, bytes), where)

    def test_functions_are_short_and_plain(self):
        for where, _, node in walked():
            if isinstance(node, ast.FunctionDef):
                self.assertLessEqual(node.end_lineno - node.lineno + 1, 40, where)
                self.assertEqual(node.decorator_list, [], where)

    def test_names_are_plain(self):
        for where, tree, _ in walked():
            for name in names_bound(tree) - {"__init__"}:
                self.assertRegex(name, r"\A[A-Za-z][A-Za-z0-9_]*\Z", where)
                self.assertNotIn(name, NAMES_OUT, where)
                self.assertFalse(hasattr(builtins, name), where)

    def test_each_name_of_a_top_is_bound_once(self):
        for name, source in sources():
            found = top_names(ast.parse(source))
            self.assertEqual(len(found), len(set(found)), name)

    def test_attributes(self):
        own = own_attributes()
        self.assertEqual(own & NAMES_OUT, set())
        for where, _, node in walked():
            if isinstance(node, ast.Attribute):
                self.assertIn(node.attr, METHODS | own, where)

    def test_imports_draw_from_the_file_that_defines_the_name_and_never_in_a_ring(self):
        trees = {f"fewstones.{name[:-3]}": ast.parse(source) for name, source in sources()}
        drawn = {}
        for module, tree in trees.items():
            rows = [node for node in tree.body if isinstance(node, ast.ImportFrom)]
            drawn[module] = {row.module for row in rows}
            for row in rows:
                defined = {node.name for node in trees[row.module].body
                           if isinstance(node, (ast.FunctionDef, ast.ClassDef))}
                self.assertLessEqual({alias.name for alias in row.names}, defined, module)
        while drawn:
            free = [module for module, others in drawn.items() if not others & set(drawn)]
            self.assertNotEqual(free, [], drawn)
            for module in free:
                drawn.pop(module)

    def test_statements(self):
        for where, _, node in walked():
            if isinstance(node, (ast.For, ast.While)):
                self.assertEqual(node.orelse, [], where)
            elif isinstance(node, ast.Try):
                self.assertEqual(node.finalbody, [], where)
            elif isinstance(node, ast.Assign):
                self.assertEqual(len(node.targets), 1, where)
            elif isinstance(node, ast.Compare) and any(isinstance(sign, (ast.Is, ast.IsNot)) for sign in node.ops):
                self.assertTrue(all(isinstance(side, ast.Constant) for side in node.comparators), where)

    def test_texts(self):
        for where, _, node in walked():
            if isinstance(node, ast.Constant) and isinstance(node.value, str):
                self.assertNotIn("%", node.value, where)

    def test_no_power_but_a_written_one(self):
        for where, _, node in walked():
            if isinstance(node, ast.BinOp) and isinstance(node.op, ast.Pow):
                self.assertIsInstance(node.right, ast.Constant, where)
                self.assertIn(node.right.value, range(65), where)


if __name__ == "__main__":
    unittest.main()
