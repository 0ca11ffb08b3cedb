"""The part of Python that the package keeps to, as far as a look at its files can tell."""

import ast
import pathlib
import re
import unittest

PACKAGE = pathlib.Path(__file__).resolve().parent.parent / "timberbids"
MODULES = sorted(PACKAGE.rglob("*.py"))

STATEMENTS = (ast.Assign, ast.AugAssign, ast.If, ast.While, ast.For, ast.Return, ast.Break, ast.Continue, ast.Pass,
              ast.Raise, ast.Try, ast.Expr, ast.FunctionDef, ast.ClassDef, ast.ImportFrom)
UNUSED_FORMS = (ast.GeneratorExp, ast.SetComp, ast.DictComp, ast.NamedExpr, ast.Starred, ast.Div, ast.Yield,
                ast.YieldFrom, ast.Await, ast.MatMult)
BUILT_IN = set("""len range enumerate zip min max sum abs sorted reversed int str bool list tuple dict set frozenset
    isinstance ord repr any all divmod Exception ValueError TypeError KeyError IndexError LookupError
    ZeroDivisionError ArithmeticError OverflowError RuntimeError NotImplementedError AttributeError
    StopIteration""".split())
VALUE_METHODS = set("""append clear copy count endswith extend find get index insert isalnum isalpha isdigit islower
    isspace isupper items join keys ljust lower lstrip partition pop remove replace reverse rfind rjust rpartition
    rsplit rstrip setdefault split splitlines startswith strip update upper values zfill bit_length""".split())
UNUSED_NAMES = set("""register mro elements open input version_info with_traceback add_note attrgetter breakpoint
    builtins compile copyright credits delattr dir eval exec exit gc getattr globals hasattr help id importlib license
    locals methodcaller os quit setattr super type vars sys""".split())
UNUSED_WORDS = re.compile(r"\b(type|typing|typing_extensions|enum|Enum|IntEnum|StrEnum|Flag|IntFlag|Generic|Protocol|ABC"
                          r"|ABCMeta|namedtuple|NamedTuple|TypedDict|TYPE_CHECKING|abstractmethod)\b"
                          r"|dataclass|overload|contextmanager")


def names_bound(tree):
    bound = set()
    for node in ast.walk(tree):
        if isinstance(node, (ast.FunctionDef, ast.ClassDef)):
            bound.add(node.name)
        elif isinstance(node, ast.arg):
            bound.add(node.arg)
        elif isinstance(node, ast.Name) and isinstance(node.ctx, ast.Store):
            bound.add(node.id)
        elif isinstance(node, ast.Attribute) and isinstance(node.ctx, ast.Store):
            bound.add(node.attr)
        elif isinstance(node, ast.ImportFrom):
            bound.update(alias.name for alias in node.names)
    return bound


class Language(unittest.TestCase):
    def test_files(self):
        self.assertIn(PACKAGE / "__init__.py", MODULES)
        for path in PACKAGE.rglob("*"):
            if "__pycache__" not in path.parts:
                self.assertTrue(path.is_dir() or path.suffix == ".py", path)
                self.assertRegex(path.name, r"^(__init__|[a-z][a-z0-9_]*)(\.py)?$")

    def test_signs_and_sizes(self):
        for path in MODULES:
            text = path.read_bytes().decode("ascii")
            rows = text.split("\n")
            self.assertLessEqual(len(rows), 399, path)
            self.assertIsNone(UNUSED_WORDS.search(text), path)
            for number, row in enumerate(rows, 1):
                self.assertLessEqual(len(row), 120, (path, number))
                self.assertRegex(row, r"^[ -~]*$", (path, number))

    def test_forms(self):
        for path in MODULES:
            for node in ast.walk(ast.parse(path.read_text())):
                where = (path.name, getattr(node, "lineno", 0), type(node).__name__)
                self.assertFalse(isinstance(node, UNUSED_FORMS), where)
                if isinstance(node, ast.stmt):
                    self.assertIsInstance(node, STATEMENTS, where)
                if isinstance(node, ast.Assign):
                    self.assertEqual(len(node.targets), 1, where)
                if isinstance(node, ast.FunctionDef):
                    self.assertLessEqual(node.end_lineno - node.lineno + 1, 40, where)
                if isinstance(node, (ast.FunctionDef, ast.ClassDef)):
                    self.assertEqual(node.decorator_list, [], where)
                if isinstance(node, ast.ListComp):
                    self.assertEqual(len(node.generators), 1, where)
                    self.assertLessEqual(len(node.generators[0].ifs), 1, where)
                if isinstance(node, ast.Constant):
                    self.assertNotIsInstance(node.value, (float, bytes, complex), where)

    def test_names(self):
        trees = {path: ast.parse(path.read_text()) for path in MODULES}
        own = set().union(*[names_bound(tree) for tree in trees.values()])
        for path, tree in trees.items():
            bound = names_bound(tree)
            self.assertEqual(bound & UNUSED_NAMES, set(), path)
            self.assertEqual(bound & BUILT_IN, set(), path)
            for node in ast.walk(tree):
                if isinstance(node, ast.Name):
                    self.assertIn(node.id, bound | BUILT_IN, (path, node.lineno))
                if isinstance(node, ast.Attribute):
                    self.assertIn(node.attr, own | VALUE_METHODS, (path, node.lineno))
            for name in bound - {"__init__"}:
                self.assertRegex(name, r"^[A-Za-z]\w*$", path)

    def test_locals_are_not_called_like_imports_and_classes(self):
        for path in MODULES:
            tree = ast.parse(path.read_text())
            taken = {node.name for node in tree.body if isinstance(node, ast.ClassDef)}
            for node in tree.body:
                if isinstance(node, ast.ImportFrom):
                    taken.update(alias.name for alias in node.names)
            for node in ast.walk(tree):
                if isinstance(node, ast.arg):
                    self.assertNotIn(node.arg, taken, (path, node.lineno))
                if isinstance(node, ast.Name) and isinstance(node.ctx, ast.Store):
                    self.assertNotIn(node.id, taken, (path, node.lineno))

    def test_no_name_is_a_method_and_a_value(self):
        methods, own_values = set(), set()
        for path in MODULES:
            for node in ast.walk(ast.parse(path.read_text())):
                if isinstance(node, ast.ClassDef):
                    methods.update(part.name for part in node.body if isinstance(part, ast.FunctionDef))
                if isinstance(node, ast.Attribute) and isinstance(node.ctx, ast.Store):
                    own_values.add(node.attr)
        self.assertEqual(methods & own_values, set())

    def test_imports(self):
        for path in MODULES:
            tree = ast.parse(path.read_text())
            for node in ast.walk(tree):
                if isinstance(node, ast.ImportFrom):
                    self.assertIn(node, tree.body, path)
                    self.assertEqual(node.level, 0, path)
                    source = PACKAGE.parent / (node.module.replace(".", "/") + ".py")
                    top = ast.parse(source.read_text()).body
                    defined = [part.name for part in top if isinstance(part, (ast.FunctionDef, ast.ClassDef))]
                    defined += [part.targets[0].id for part in top if isinstance(part, ast.Assign)]
                    for alias in node.names:
                        self.assertIn(alias.name, defined, path)
                        self.assertIsNone(alias.asname, path)


if __name__ == "__main__":
    unittest.main()
