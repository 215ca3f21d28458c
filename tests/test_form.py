"""The package keeps to its small part of the language; the rules that can be seen in its text."""

import ast
import pathlib
import re
import unittest

ROOT = pathlib.Path(__file__).resolve().parent.parent
PACKAGE = ROOT / "pageloom"
FILES = sorted(path for path in PACKAGE.rglob("*") if "__pycache__" not in path.parts and path.is_file())

NO_WORDS = (
    "type", "typing", "typing_extensions", "enum", "Enum", "IntEnum", "StrEnum", "Flag", "IntFlag", "Generic", "Protocol",
    "ABC", "ABCMeta", "namedtuple", "NamedTuple", "TypedDict", "TYPE_CHECKING", "abstractmethod",
)
OWN_NAMES = set(
    "len range enumerate zip min max sum abs sorted reversed int str bool bytes list tuple dict set frozenset isinstance ord "
    "repr any all divmod Exception ValueError TypeError KeyError IndexError LookupError ZeroDivisionError ArithmeticError "
    "OverflowError RuntimeError NotImplementedError AttributeError StopIteration".split()
)
METHODS = set(
    "append clear copy count endswith extend find get index insert isalnum isalpha isdigit islower isspace isupper items join "
    "keys ljust lower lstrip partition pop remove replace reverse rfind rjust rpartition rsplit rstrip setdefault split "
    "splitlines startswith strip update upper values zfill bit_length title capitalize swapcase casefold center expandtabs "
    "removeprefix removesuffix rindex isascii isdecimal isnumeric istitle isidentifier isprintable sort add discard".split()
)
TWO_UNDERSCORES = {"__init__", "__eq__", "__repr__", "__str__", "__len__"}
NO_NODES = (
    ast.AsyncFunctionDef, ast.With, ast.AsyncWith, ast.Match, ast.Global, ast.Nonlocal, ast.Yield, ast.YieldFrom, ast.Await,
    ast.Import, ast.GeneratorExp, ast.NamedExpr, ast.Div, ast.MatMult,
)


def in_each(kinds):
    """Each file with each of its nodes of these kinds."""
    for path in FILES:
        for node in ast.walk(ast.parse(path.read_text("utf-8"))):
            if isinstance(node, kinds):
                yield path, node


class Texts(unittest.TestCase):
    def test_files(self):
        self.assertIn(PACKAGE / "__init__.py", FILES)
        for path in FILES:
            self.assertRegex(path.name, r"^([a-z][a-z0-9_]*|__init__|__main__)\.py$")

    def test_signs_and_lengths(self):
        for path in FILES:
            text = path.read_text("utf-8")
            self.assertNotRegex(text, r"[^\n -~]", path.name)
            lines = text.split("\n")
            self.assertLessEqual(len(lines), 400, path.name)
            self.assertLessEqual(max(len(line) for line in lines), 120, path.name)

    def test_words_that_stand_nowhere(self):
        for path in FILES:
            words = re.findall(r"\w+", path.read_text("utf-8"))
            self.assertEqual([word for word in words if word in NO_WORDS], [], path.name)


class Trees(unittest.TestCase):
    def test_nothing_outside(self):
        self.assertEqual([(path.name, node.lineno) for path, node in in_each(NO_NODES)], [])

    def test_imports_are_the_own_modules(self):
        for path, node in in_each(ast.ImportFrom):
            self.assertEqual(node.level, 0, path.name)
            self.assertRegex(node.module, r"^pageloom\.[a-z]+$", path.name)
            self.assertNotIn("*", [name.name for name in node.names], path.name)

    def test_each_name_is_drawn_from_where_it_is_defined(self):
        for path, node in in_each(ast.ImportFrom):
            drawn = ast.parse((PACKAGE / (node.module.split(".")[1] + ".py")).read_text("utf-8"))
            defined = {row.name for row in drawn.body if isinstance(row, (ast.FunctionDef, ast.ClassDef))}
            defined |= {name.id for row in drawn.body if isinstance(row, ast.Assign) for name in row.targets}
            self.assertEqual({name.name for name in node.names} - defined, set(), path.name)

    def test_no_two_files_draw_from_one_another(self):
        drawn = {path.stem: set() for path in FILES}
        for path, node in in_each(ast.ImportFrom):
            drawn[path.stem].add(node.module.split(".")[1])
        while drawn:
            free = [name for name, others in drawn.items() if not others & set(drawn)]
            self.assertTrue(free, drawn)
            for name in free:
                del drawn[name]

    def test_what_is_drawn_or_defined_keeps_its_name(self):
        for path in FILES:
            tree = ast.parse(path.read_text("utf-8"))
            top = [name.asname or name.name for row in tree.body if isinstance(row, ast.ImportFrom) for name in row.names]
            top += [row.name for row in tree.body if isinstance(row, (ast.FunctionDef, ast.ClassDef))]
            top += [name.id for row in tree.body if isinstance(row, ast.Assign) for name in row.targets]
            self.assertEqual(len(top), len(set(top)), path.name)
            for row in tree.body:
                if isinstance(row, (ast.FunctionDef, ast.ClassDef)):
                    given = {node.id for node in ast.walk(row) if isinstance(node, ast.Name) and not isinstance(node.ctx, ast.Load)}
                    given |= {node.arg for node in ast.walk(row) if isinstance(node, ast.arg)}
                    self.assertEqual(given & set(top), set(), (path.name, row.name))

    def test_what_is_drawn_is_used(self):
        for path in FILES:
            tree = ast.parse(path.read_text("utf-8"))
            drawn = {name.name for row in tree.body if isinstance(row, ast.ImportFrom) for name in row.names}
            used = {node.id for node in ast.walk(tree) if isinstance(node, ast.Name)}
            self.assertEqual(drawn - used, set(), path.name)

    def test_functions_are_short_and_plain(self):
        for path, node in in_each((ast.FunctionDef, ast.Lambda)):
            self.assertLess(node.end_lineno - node.lineno, 40, (path.name, node.lineno))
            self.assertIsNone(node.args.vararg or node.args.kwarg, (path.name, node.lineno))
            self.assertEqual(node.args.posonlyargs, [], (path.name, node.lineno))
            self.assertEqual(getattr(node, "decorator_list", []), [], (path.name, node.lineno))

    def test_values(self):
        for path, node in in_each(ast.Constant):
            self.assertIn(type(node.value), (int, str, bytes, bool, type(None)), (path.name, node.lineno))
            if isinstance(node.value, str):
                self.assertNotIn("%", node.value, (path.name, node.lineno))

    def test_exponents_are_written(self):
        for path, node in in_each(ast.BinOp):
            if isinstance(node.op, ast.Pow):
                self.assertIsInstance(node.right, ast.Constant, (path.name, node.lineno))
                self.assertIn(node.right.value, range(65), (path.name, node.lineno))

    def test_names(self):
        for path in FILES:
            tree = ast.parse(path.read_text("utf-8"))
            names = [node for node in ast.walk(tree) if isinstance(node, ast.Name)]
            given = {node.id for node in names if not isinstance(node.ctx, ast.Load)}
            for node in ast.walk(tree):
                if isinstance(node, (ast.FunctionDef, ast.ClassDef)):
                    given.add(node.name)
                elif isinstance(node, ast.arg):
                    given.add(node.arg)
                elif isinstance(node, ast.alias):
                    given.add(node.asname or node.name)
                elif isinstance(node, ast.ExceptHandler) and node.name:
                    given.add(node.name)
            self.assertEqual({node.id for node in names} - given - OWN_NAMES, set(), path.name)
            self.assertEqual({name for name in given if name.startswith("_")} - TWO_UNDERSCORES, set(), path.name)
            self.assertEqual(given & set(dir(__builtins__) if not isinstance(__builtins__, dict) else __builtins__), set())

    def test_methods(self):
        own = {node.name for path, node in in_each(ast.FunctionDef)}
        for path, node in in_each(ast.Call):
            if isinstance(node.func, ast.Attribute):
                self.assertIn(node.func.attr, METHODS | own, (path.name, node.lineno))

    def test_methods_and_values_of_objects(self):
        methods = {row.name for path, node in in_each(ast.ClassDef) for row in node.body if isinstance(row, ast.FunctionDef)}
        attributes = [node for path, node in in_each(ast.Attribute)]
        given = {node.attr for node in attributes if isinstance(node.ctx, ast.Store)}
        called = {node.func.attr for path, node in in_each(ast.Call) if isinstance(node.func, ast.Attribute)}
        asked = {node.attr for node in attributes if isinstance(node.ctx, ast.Load)}
        self.assertEqual(methods & given, set())
        self.assertEqual(asked - called - given, set())
        python = {name for kind in (str, int, list, dict, set, bytes, tuple) for name in dir(kind)}
        self.assertEqual((methods - TWO_UNDERSCORES) & python, set())
        self.assertEqual(given & python, set())

    def test_classes_are_plain(self):
        for path, node in in_each(ast.ClassDef):
            self.assertLessEqual(len(node.bases), 1, (path.name, node.name))
            for row in node.body:
                is_doc = isinstance(row, ast.Expr) and isinstance(row.value, ast.Constant)
                self.assertTrue(is_doc or isinstance(row, ast.FunctionDef), (path.name, node.name))

    def test_errors_are_taken_by_own_names(self):
        own = {node.name for path, node in in_each(ast.ClassDef)}
        for path, node in in_each(ast.ExceptHandler):
            self.assertIn(ast.unparse(node.type), own, (path.name, node.lineno))
        for path, node in in_each(ast.Raise):
            self.assertIn(node.exc.func.id, own, (path.name, node.lineno))


if __name__ == "__main__":
    unittest.main()
