"""The rules of ../shared/LANGUAGE.md that a program can see, over all files of the package."""

import ast
import builtins
import pathlib
import re
import unittest

PACKAGE = pathlib.Path(__file__).resolve().parent.parent / "rowscribe"

BUILTINS = set(
    "len range enumerate zip min max sum abs sorted reversed int str bool list tuple dict set isinstance ord repr any"
    " all divmod Exception ValueError TypeError KeyError IndexError LookupError ZeroDivisionError ArithmeticError"
    " OverflowError RuntimeError NotImplementedError True False None super".split()
)
METHODS = set(
    "append clear copy count endswith extend find get index insert isalnum isalpha isdigit islower isspace isupper"
    " items join keys ljust lower lstrip partition pop remove replace reverse rfind rjust rpartition rsplit rstrip"
    " setdefault split splitlines startswith strip update upper values zfill bit_length removeprefix removesuffix"
    " add discard sort __init__".split()
)
STATEMENTS = (
    ast.Assign, ast.AugAssign, ast.If, ast.While, ast.For, ast.Return, ast.Break, ast.Continue, ast.Pass, ast.Raise,
    ast.Assert, ast.Delete, ast.Try, ast.Expr, ast.FunctionDef, ast.ClassDef, ast.ImportFrom,
)
NOT_ALLOWED = (
    ast.Global, ast.AsyncFunctionDef, ast.AsyncFor, ast.AsyncWith, ast.Await, ast.Div, ast.MatMult, ast.Import,
    ast.AnnAssign, ast.Set, ast.SetComp, ast.Lambda, ast.Yield, ast.YieldFrom,
)
BARRED_NAMES = set(
    "register mro elements open input version_info with_traceback add_note attrgetter breakpoint builtins compile"
    " copyright credits delattr dir eval exec exit gc getattr globals hasattr help id importlib license locals"
    " methodcaller os quit setattr type vars sys chr print".split()
)
BARRED_WORDS = re.compile(
    r"\b(type|typing|typing_extensions|enum|Enum|IntEnum|StrEnum|Flag|IntFlag|Generic|Protocol|ABC|ABCMeta|namedtuple"
    r"|NamedTuple|TypedDict|TYPE_CHECKING|abstractmethod)\b|dataclass|overload|contextmanager"
)
# What values of Python's own have as a method or an attribute, and an own attribute may be called all the same.
FREE_ATTRIBUTES = set("count index title find get join lower upper split strip copy add".split())


def sources():
    """(path, source, tree) of all files."""
    found = []
    for path in sorted(PACKAGE.glob("*.py")):
        source = path.read_text(encoding="utf-8")
        found.append((path, source, ast.parse(source)))
    return found


def bound_names(tree):
    """All names that a file binds anywhere."""
    names = set()
    for node in ast.walk(tree):
        if isinstance(node, (ast.FunctionDef, ast.ClassDef)):
            names.add(node.name)
        elif isinstance(node, ast.arg):
            names.add(node.arg)
        elif isinstance(node, ast.Name) and not isinstance(node.ctx, ast.Load):
            names.add(node.id)
        elif isinstance(node, ast.ExceptHandler) and node.name:
            names.add(node.name)
        elif isinstance(node, ast.ImportFrom):
            names.update(alias.asname or alias.name for alias in node.names)
    return names


def module_names(tree):
    """The names that a file binds at module level, in turn."""
    names = []
    for node in tree.body:
        if isinstance(node, (ast.FunctionDef, ast.ClassDef)):
            names.append(node.name)
        elif isinstance(node, ast.Assign):
            names += [target.id for target in node.targets]
        elif isinstance(node, ast.ImportFrom):
            names += [alias.name for alias in node.names]
    return names


class Language(unittest.TestCase):
    def test_there_are_files_and_nothing_else(self):
        names = [path.name for path in PACKAGE.iterdir() if path.name != "__pycache__"]
        self.assertIn("__init__.py", names)
        for name in names:
            self.assertRegex(name, r"^(__init__|[a-z][a-z0-9_]*)\.py$")
            self.assertNotIn(name[:-3], dir(builtins))

    def test_sizes_and_characters(self):
        for path, source, tree in sources():
            lines = source.split("\n")
            self.assertLessEqual(len(lines), 400)
            self.assertLessEqual(max(len(line) for line in lines), 120)
            self.assertTrue(all(" " <= letter <= "~" or letter == "\n" for letter in source))
            self.assertIsNone(BARRED_WORDS.search(source))
            for node in ast.walk(tree):
                if isinstance(node, ast.FunctionDef):
                    self.assertLessEqual(node.end_lineno - node.lineno + 1, 40, node.name)

    def test_imports(self):
        for path, source, tree in sources():
            for node in ast.walk(tree):
                if not isinstance(node, ast.ImportFrom):
                    continue
                self.assertIn(node, tree.body)
                self.assertEqual((node.level, node.module.split(".")[0]), (0, "rowscribe"))
                home = ast.parse((PACKAGE / (node.module.split(".")[1] + ".py")).read_text(encoding="utf-8"))
                own = [name.name if hasattr(name, "name") else name.targets[0].id for name in home.body
                       if isinstance(name, (ast.FunctionDef, ast.ClassDef, ast.Assign))]
                for alias in node.names:
                    self.assertIsNone(alias.asname)
                    self.assertIn(alias.name, own)

    def test_no_two_files_import_from_each_other(self):
        reached = {}
        for path, source, tree in sources():
            reached[path.stem] = {node.module.split(".")[1] for node in tree.body if isinstance(node, ast.ImportFrom)}
        for step in reached:
            for name in reached:
                for other in list(reached[name]):
                    reached[name] |= reached[other]
        for name in reached:
            self.assertNotIn(name, reached[name])

    def test_module_level(self):
        for path, source, tree in sources():
            for number, node in enumerate(tree.body):
                if isinstance(node, ast.Expr):
                    self.assertEqual(number, 0)
                    self.assertIsInstance(node.value.value, str)
                else:
                    self.assertIsInstance(node, (ast.ImportFrom, ast.FunctionDef, ast.ClassDef, ast.Assign))
                if isinstance(node, ast.Assign):
                    self.assertFalse([call for call in ast.walk(node) if isinstance(call, ast.Call)])
                    inner = [part for part in ast.walk(node.value) if part != node.value]
                    self.assertFalse([part for part in inner if isinstance(part, (ast.List, ast.Dict))])
            names = module_names(tree)
            self.assertEqual(len(names), len(set(names)))

    def test_statements_and_expressions(self):
        for path, source, tree in sources():
            for node in ast.walk(tree):
                self.assertNotIsInstance(node, NOT_ALLOWED)
                if isinstance(node, ast.stmt):
                    self.assertIsInstance(node, STATEMENTS)
                if isinstance(node, ast.Constant):
                    self.assertNotIsInstance(node.value, (float, complex, bytes))
                    self.assertNotIn("%", node.value if isinstance(node.value, str) else "")
                if isinstance(node, ast.Compare) and isinstance(node.ops[0], (ast.Is, ast.IsNot)):
                    self.assertIn(node.comparators[0].value, (None, True, False))
                if isinstance(node, ast.Raise):
                    self.assertIsInstance(node.exc, ast.Call)
                if isinstance(node, (ast.FunctionDef, ast.ClassDef)):
                    self.assertEqual(node.decorator_list, [])
                if isinstance(node, ast.BinOp) and isinstance(node.op, ast.Pow):
                    self.assertIsInstance(node.right, ast.Constant)

    def test_names(self):
        for path, source, tree in sources():
            bound = bound_names(tree)
            outer = {name for node in tree.body if isinstance(node, (ast.ImportFrom, ast.ClassDef))
                     for name in ([node.name] if isinstance(node, ast.ClassDef) else [a.name for a in node.names])}
            for name in bound:
                if name != "__init__":
                    self.assertRegex(name, r"^[A-Za-z][A-Za-z0-9_]*$")
                    self.assertNotIn(name, dir(builtins))
                    self.assertNotIn(name, BARRED_NAMES)
            for node in ast.walk(tree):
                if isinstance(node, ast.Name) and isinstance(node.ctx, ast.Load):
                    self.assertIn(node.id, bound | BUILTINS)
                if isinstance(node, ast.Name) and isinstance(node.ctx, ast.Store):
                    self.assertNotIn(node.id, outer)
                if isinstance(node, ast.arg):
                    self.assertNotIn(node.arg, outer)

    def test_attributes_and_methods(self):
        assigned, read, called = set(), set(), set()
        for path, source, tree in sources():
            callees = [node.func for node in ast.walk(tree) if isinstance(node, ast.Call)]
            for node in ast.walk(tree):
                if isinstance(node, ast.Attribute) and isinstance(node.ctx, ast.Store):
                    assigned.add(node.attr)
                elif isinstance(node, ast.Attribute):
                    (called if node in callees else read).add(node.attr)
        self.assertEqual(called - METHODS, set())
        self.assertEqual(read - assigned, set())
        for kind in (str, int, list, dict, set, bytes, tuple):
            self.assertEqual((assigned & set(dir(kind))) - FREE_ATTRIBUTES, set())

    def test_keywords_and_defaults(self):
        for path, source, tree in sources():
            for node in ast.walk(tree):
                if isinstance(node, ast.arguments):
                    self.assertEqual(node.posonlyargs + node.defaults, [])


if __name__ == "__main__":
    unittest.main()
