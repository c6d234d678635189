"""The package keeps to its part of Python, as far as a plain look at the written code can tell."""

import ast
import builtins
import re
import unittest
from pathlib import Path

PACKAGE = Path(__file__).resolve().parent.parent / "leftnumbers"

OWN_NAMES = set(
    "len range enumerate zip min max sum abs sorted reversed int str bool list tuple dict set frozenset isinstance "
    "ord repr any all divmod Exception ValueError TypeError KeyError IndexError LookupError ZeroDivisionError "
    "ArithmeticError OverflowError RuntimeError NotImplementedError AttributeError StopIteration".split()
)
OWN_METHODS = set(
    "append clear copy count endswith extend find get index insert isalnum isalpha isdigit islower isspace isupper "
    "items join keys ljust lower lstrip partition pop remove replace reverse rfind rjust rpartition rsplit rstrip "
    "setdefault split splitlines startswith strip update upper values zfill bit_length".split()
)
DUNDERS = set("__init__ __eq__ __repr__ __str__ __len__ __all__ __version__ __name__".split())
WORDS = re.compile(
    r"\b(type|typing|typing_extensions|enum|Enum|IntEnum|StrEnum|Flag|IntFlag|Generic|Protocol|ABC|ABCMeta|"
    r"namedtuple|NamedTuple|TypedDict|TYPE_CHECKING|abstractmethod)\b|dataclass|overload|contextmanager"
)
NOT_USED = set(
    "register mro elements open input version_info with_traceback add_note attrgetter breakpoint builtins compile "
    "copyright credits delattr dir eval exec exit gc getattr globals hasattr help id importlib license locals "
    "methodcaller os quit setattr super type vars sys format format_map chr print".split()
)
WALKERS = set("list tuple dict sorted sum any all enumerate zip min max".split())
STATEMENTS = (
    ast.Assign, ast.AugAssign, ast.AnnAssign, ast.If, ast.While, ast.For, ast.Return, ast.Break, ast.Continue,
    ast.Pass, ast.Raise, ast.Try, ast.Expr, ast.FunctionDef, ast.ClassDef, ast.ImportFrom,
)
LEFT_OUT = (
    ast.SetComp, ast.DictComp, ast.GeneratorExp, ast.NamedExpr, ast.Starred, ast.Div, ast.MatMult, ast.Await,
    ast.Yield, ast.YieldFrom,
)


def files():
    return sorted(path for path in PACKAGE.rglob("*") if "__pycache__" not in path.parts)


def trees():
    return [(path.name, ast.parse(path.read_text(encoding="utf-8"))) for path in files()]


def nodes(kinds):
    return [(name, node) for name, tree in trees() for node in ast.walk(tree) if isinstance(node, kinds)]


def bound_names():
    for name, node in nodes((ast.Name, ast.arg, ast.FunctionDef, ast.ClassDef)):
        if isinstance(node, ast.Name) and not isinstance(node.ctx, ast.Store):
            continue
        yield name, getattr(node, "id", None) or getattr(node, "arg", None) or node.name, node


class Language(unittest.TestCase):
    def test_files(self):
        self.assertTrue(files())
        for path in files():
            self.assertRegex(path.name, r"^([a-z][a-z0-9_]*|__init__)\.py$")
            text = path.read_text(encoding="utf-8")
            self.assertRegex(text, r"\A[ -~\n]*\Z", path.name)
            self.assertIsNone(WORDS.search(text), path.name)
            self.assertLessEqual(len(text.splitlines()), 400, path.name)
            self.assertLessEqual(max(map(len, text.splitlines())), 120, path.name)

    def test_imports(self):
        for name, node in nodes((ast.Import, ast.ImportFrom)):
            self.assertIsInstance(node, ast.ImportFrom, name)
            self.assertRegex(node.module, r"^leftnumbers\.[a-z0-9_]+$", name)
            self.assertEqual((node.level, node.col_offset), (0, 0), name)
            self.assertNotIn("*", [alias.name for alias in node.names], name)

    def test_imported_names_are_defined_where_they_are_drawn_from(self):
        defined = {name[:-3]: {node.name for node in tree.body if hasattr(node, "name")} for name, tree in trees()}
        for name, node in nodes(ast.ImportFrom):
            for alias in node.names:
                self.assertIn(alias.name, defined[node.module.partition(".")[2]], (name, node.lineno))

    def test_no_two_files_draw_from_one_another(self):
        drawn = {name[:-3]: set() for name, tree in trees()}
        for name, node in nodes(ast.ImportFrom):
            drawn[name[:-3]].add(node.module.partition(".")[2])
        while drawn:
            free = [name for name in drawn if not drawn[name] & set(drawn)]
            self.assertTrue(free, drawn)
            drawn = {name: drawn[name] for name in drawn if name not in free}

    def test_locals_are_not_called_like_imports_classes_or_functions(self):
        for file, tree in trees():
            top = {node.name for node in tree.body if hasattr(node, "name")}
            top |= {alias.asname or alias.name for node in tree.body if isinstance(node, ast.ImportFrom)
                    for alias in node.names}
            for name, bound, node in bound_names():
                if name == file and isinstance(node, (ast.Name, ast.arg)):
                    self.assertNotIn(bound, top, (file, bound))

    def test_names_that_are_not_used(self):
        for name, node in nodes((ast.Name, ast.Attribute, ast.arg, ast.FunctionDef, ast.ClassDef)):
            told = next(getattr(node, key) for key in ("id", "attr", "arg", "name") if hasattr(node, key))
            self.assertNotIn(told, NOT_USED, (name, node.lineno))

    def test_walked_on_the_spot(self):
        walked = set()
        for name, node in nodes((ast.For, ast.comprehension, ast.Call)):
            if not isinstance(node, ast.Call):
                walked.add((name, ast.dump(node.iter, include_attributes=True)))
            elif getattr(node.func, "id", "") in WALKERS:
                walked |= {(name, ast.dump(thing, include_attributes=True)) for thing in node.args}
        for name, node in nodes(ast.Call):
            if getattr(node.func, "id", "") in ("zip", "enumerate", "reversed", "range"):
                self.assertIn((name, ast.dump(node, include_attributes=True)), walked, (name, node.lineno))

    def test_statements_and_expressions(self):
        for name, node in nodes((ast.stmt, *LEFT_OUT)):
            self.assertIsInstance(node, STATEMENTS, (name, node.lineno if hasattr(node, "lineno") else node))
            if isinstance(node, ast.Assign):
                self.assertEqual(len(node.targets), 1, (name, node.lineno))
            if isinstance(node, (ast.For, ast.While)):
                self.assertEqual(node.orelse, [], (name, node.lineno))
            if isinstance(node, ast.Try):
                self.assertEqual(node.finalbody, [], (name, node.lineno))

    def test_functions_and_classes(self):
        for name, node in nodes((ast.FunctionDef, ast.ClassDef)):
            self.assertEqual(node.decorator_list, [], (name, node.name))
            if isinstance(node, ast.FunctionDef):
                self.assertLessEqual(node.end_lineno - node.lineno + 1, 40, (name, node.name))
                told = node.args
                self.assertEqual((told.vararg, told.kwarg, told.kwonlyargs), (None, None, []), (name, node.name))
            else:
                self.assertLessEqual(len(node.bases), 1, (name, node.name))

    def test_names(self):
        for name, bound, node in bound_names():
            self.assertTrue(bound in DUNDERS or re.match(r"^[A-Za-z][A-Za-z0-9_]*$", bound), (name, bound))
            self.assertFalse(hasattr(builtins, bound), (name, bound))
        for name, node in nodes(ast.Name):
            self.assertTrue(node.id in OWN_NAMES or not hasattr(builtins, node.id), (name, node.id))

    def test_methods(self):
        own = {node.name for name, node in nodes(ast.FunctionDef)}
        for name, node in nodes(ast.Call):
            if isinstance(node.func, ast.Attribute):
                self.assertIn(node.func.attr, OWN_METHODS | own, (name, node.lineno))

    def test_numbers_and_texts(self):
        for name, node in nodes((ast.BinOp, ast.Constant)):
            if isinstance(node, ast.Constant):
                self.assertNotIsInstance(node.value, (float, complex, bytes), (name, node.lineno))
                self.assertNotIn("%", str(node.value), (name, node.lineno))
            elif isinstance(node.op, ast.Pow):
                self.assertIsInstance(node.right, ast.Constant, (name, node.lineno))
                self.assertIn(node.right.value, range(65), (name, node.lineno))

    def test_is_stands_beside_none_and_truths_alone(self):
        for name, node in nodes(ast.Compare):
            for deed, side in zip(node.ops, node.comparators):
                if isinstance(deed, (ast.Is, ast.IsNot)):
                    self.assertIsInstance(side, ast.Constant, (name, node.lineno))
                    self.assertIn(repr(side.value), ("None", "True", "False"), (name, node.lineno))


if __name__ == "__main__":
    unittest.main()
