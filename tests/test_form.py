"""The form of the package's files, as far as a look at their text and syntax can tell it."""

import ast
import builtins
import pathlib
import re
import unittest

PACKAGE = pathlib.Path(__file__).resolve().parent.parent / "glowflock"
FILES = sorted(path for path in PACKAGE.rglob("*") if path.is_file() and path.suffix != ".pyc")
STATEMENTS = (
    "Module FunctionDef ClassDef Import ImportFrom alias Assign AugAssign If While For Return Break Continue Pass "
    "Raise Try ExceptHandler Expr arguments arg"
)
EXPRESSIONS = (
    "Name Constant List Tuple Dict Set Call keyword Attribute Subscript Slice BinOp UnaryOp BoolOp Compare IfExp "
    "Lambda ListComp comprehension JoinedStr FormattedValue Load Store "
    "Add Sub Mult FloorDiv Mod Pow BitAnd BitOr BitXor LShift RShift Invert UAdd USub Not And Or "
    "Eq NotEq Lt LtE Gt GtE In NotIn Is IsNot"
)
NODES = (STATEMENTS + " " + EXPRESSIONS).split()
OWN_NAMES = (
    "len range enumerate zip min max sum abs sorted reversed int str bool list tuple dict set frozenset isinstance "
    "ord repr any all divmod Exception ValueError TypeError KeyError IndexError LookupError ZeroDivisionError "
    "ArithmeticError OverflowError RuntimeError NotImplementedError AttributeError StopIteration"
).split()
METHODS = (
    "append clear copy count endswith extend find get index insert isalnum isalpha isdigit islower isspace isupper "
    "items join keys ljust lower lstrip partition pop remove replace reverse rfind rjust rpartition rsplit rstrip "
    "setdefault split splitlines startswith strip update upper values zfill bit_length"
).split()
DOUBLE = ("__init__", "__eq__", "__repr__", "__str__", "__len__", "__all__", "__version__", "__name__")
WORDS = (
    "type typing typing_extensions enum Enum IntEnum StrEnum Flag IntFlag Generic Protocol ABC ABCMeta namedtuple "
    "NamedTuple TypedDict TYPE_CHECKING abstractmethod"
).split()
WALKED = "zip enumerate reversed range items keys values".split()
WALKERS = "list tuple dict sorted sum any all enumerate zip min max join".split()
UNUSED = "register mro elements open input version_info with_traceback add_note format format_map".split()


def syntax(path):
    return ast.parse(path.read_text(encoding="utf-8"))


def nodes(kind):
    return [(path, node) for path in FILES for node in ast.walk(syntax(path)) if isinstance(node, kind)]


def top_names(tree):
    told = [node.name for node in tree.body if isinstance(node, (ast.FunctionDef, ast.ClassDef))]
    for node in tree.body:
        if isinstance(node, ast.Assign):
            told.extend(target.id for target in node.targets)
    return told


def drawn_from(path):
    return [node.module for node in syntax(path).body if isinstance(node, ast.ImportFrom)]


def called(node):
    if not isinstance(node, ast.Call):
        return None
    return getattr(node.func, "id", getattr(node.func, "attr", None))


def is_plain(node):
    if isinstance(node, (ast.List, ast.Tuple)):
        return all(is_plain(part) for part in node.elts)
    if isinstance(node, ast.Dict):
        return all(is_plain(part) for part in node.keys + node.values)
    if isinstance(node, ast.UnaryOp):
        return is_plain(node.operand)
    return isinstance(node, (ast.Constant, ast.Name))


class Form(unittest.TestCase):
    def test_the_top_of_a_module(self):
        for path in FILES:
            tree = syntax(path)
            self.assertIsNotNone(ast.get_docstring(tree), path)
            for node in tree.body[1:]:
                if path.name == "__main__.py" and isinstance(node, ast.If):
                    continue
                self.assertIsInstance(node, (ast.ImportFrom, ast.Import, ast.FunctionDef, ast.ClassDef, ast.Assign))
                if isinstance(node, ast.Assign):
                    self.assertTrue(is_plain(node.value), (path, node.lineno))

    def test_no_annotations(self):
        for path, node in nodes((ast.arg, ast.FunctionDef)):
            self.assertIsNone(getattr(node, "annotation", None), (path, node.lineno))
            self.assertIsNone(getattr(node, "returns", None), (path, node.lineno))

    def test_what_is_walked_is_walked_at_once(self):
        for path in FILES:
            tree = syntax(path)
            at_once = [node.iter for node in ast.walk(tree) if isinstance(node, (ast.For, ast.comprehension))]
            for node in ast.walk(tree):
                if called(node) in WALKERS:
                    at_once.extend(node.args)
            for node in ast.walk(tree):
                if called(node) in WALKED:
                    self.assertTrue(any(node is place for place in at_once), (path, node.lineno))

    def test_files(self):
        self.assertTrue((PACKAGE / "__init__.py").is_file())
        for path in FILES:
            self.assertRegex(path.name, r"\A([a-z][a-z0-9_]*|__init__|__main__)\.py\Z")

    def test_signs_words_and_size(self):
        for path in FILES:
            text = path.read_text(encoding="utf-8")
            self.assertRegex(text, r"\A[ -~\n]*\Z", path)
            self.assertLessEqual(len(text.splitlines()), 400, path)
            for line in text.splitlines():
                self.assertLessEqual(len(line), 120, path)
            for word in WORDS:
                self.assertIsNone(re.search(r"\b" + word + r"\b", text), (path, word))
            self.assertIsNone(re.search("dataclass|overload|contextmanager", text), path)

    def test_functions_are_short_and_plain(self):
        for path, node in nodes(ast.FunctionDef):
            self.assertLessEqual(node.end_lineno - node.lineno + 1, 40, (path, node.name))
            self.assertEqual(node.decorator_list, [], (path, node.name))
            self.assertIsNone(node.args.vararg or node.args.kwarg, (path, node.name))
            self.assertEqual(node.args.kwonlyargs + node.args.posonlyargs, [], (path, node.name))

    def test_each_step_is_of_the_language(self):
        for path, node in nodes(ast.AST):
            self.assertIn(type(node).__name__, NODES, (path, getattr(node, "lineno", 0)))
            if isinstance(node, ast.Assign):
                self.assertEqual(len(node.targets), 1, (path, node.lineno))
            if isinstance(node, (ast.For, ast.While)):
                self.assertEqual(node.orelse, [], (path, node.lineno))
            if isinstance(node, ast.Try):
                self.assertEqual(node.finalbody, [], (path, node.lineno))
            if isinstance(node, ast.ListComp):
                self.assertEqual(len(node.generators), 1, (path, node.lineno))
                self.assertLessEqual(len(node.generators[0].ifs), 1, (path, node.lineno))
            if isinstance(node, ast.BinOp) and isinstance(node.op, ast.Pow):
                self.assertIsInstance(node.right, ast.Constant, (path, node.lineno))

    def test_values(self):
        for path, node in nodes(ast.Constant):
            self.assertIn(type(node.value), (int, str, bool, type(None)), (path, node.lineno))
            if isinstance(node.value, str):
                self.assertNotIn("%", node.value, (path, node.lineno))

    def test_is_stands_beside_plain_values_alone(self):
        for path, node in nodes(ast.Compare):
            sides = [node.left] + node.comparators
            if any(isinstance(way, (ast.Is, ast.IsNot)) for way in node.ops):
                plain = [isinstance(side, ast.Constant) and side.value in (None, True, False) for side in sides]
                self.assertTrue(any(plain), (path, node.lineno))

    def test_names(self):
        for path, node in nodes((ast.Name, ast.arg, ast.Attribute, ast.FunctionDef, ast.ClassDef)):
            said = [getattr(node, key) for key in ("id", "arg", "attr", "name") if hasattr(node, key)][0]
            if said not in DOUBLE:
                self.assertRegex(said, r"\A[A-Za-z][A-Za-z0-9_]*\Z", (path, node.lineno))
            self.assertNotIn(said, UNUSED, (path, node.lineno))
            is_read = isinstance(node, ast.Name) and isinstance(node.ctx, ast.Load)
            if isinstance(node, (ast.Name, ast.arg)) and hasattr(builtins, said) and path.name != "__main__.py":
                self.assertTrue(is_read and said in OWN_NAMES, (path, node.lineno, said))

    def test_methods_are_listed_or_own(self):
        own = [node.name for path, node in nodes(ast.FunctionDef)]
        own.extend(node.attr for path, node in nodes(ast.Attribute) if isinstance(node.ctx, ast.Store))
        for path, node in nodes(ast.Attribute):
            if path.name != "__main__.py":
                self.assertIn(node.attr, METHODS + own + list(DOUBLE), (path, node.lineno))

    def test_each_top_name_is_bound_once_and_none_is_hidden(self):
        for path in FILES:
            tree = syntax(path)
            names = top_names(tree)
            brought = [alias.name for node in tree.body if isinstance(node, ast.ImportFrom) for alias in node.names]
            self.assertEqual(len(set(names + brought)), len(names + brought), path)
            classes = [node.name for node in tree.body if isinstance(node, ast.ClassDef)]
            for node in ast.walk(tree):
                if isinstance(node, ast.arg):
                    self.assertNotIn(node.arg, brought + classes, (path, node.lineno))
                if isinstance(node, ast.Name) and isinstance(node.ctx, ast.Store):
                    self.assertNotIn(node.id, brought + classes, (path, node.lineno))

    def test_classes_are_plain(self):
        for path in FILES:
            tree = syntax(path)
            tops = [node for node in tree.body if isinstance(node, ast.ClassDef)]
            for node in ast.walk(tree):
                if not isinstance(node, ast.ClassDef):
                    continue
                self.assertIn(node, tops, (path, node.name))
                self.assertLessEqual(len(node.bases), 1, (path, node.name))
                self.assertEqual(node.keywords + node.decorator_list, [], (path, node.name))
                for part in node.body:
                    self.assertIsInstance(part, (ast.FunctionDef, ast.Pass), (path, node.name))
                methods = [part.name for part in node.body if isinstance(part, ast.FunctionDef)]
                self.assertEqual(len(set(methods)), len(methods), (path, node.name))

    def test_lists_and_dicts_of_the_top_are_only_read(self):
        for path in FILES:
            tree = syntax(path)
            kept = [node for node in tree.body if isinstance(node, ast.Assign)]
            kept = [node.targets[0].id for node in kept if isinstance(node.value, (ast.List, ast.Dict))]
            read = []
            for node in ast.walk(tree):
                if isinstance(node, ast.Subscript) and isinstance(node.ctx, ast.Load):
                    read.append(node.value)
                if isinstance(node, ast.Compare):
                    read.extend(node.comparators)
            for node in ast.walk(tree):
                if isinstance(node, ast.Name) and isinstance(node.ctx, ast.Load) and node.id in kept:
                    self.assertTrue(any(node is place for place in read), (path, node.lineno))

    def test_imports_are_of_the_package_by_the_defining_file(self):
        for path, node in nodes((ast.Import, ast.ImportFrom)):
            if isinstance(node, ast.Import):
                self.assertEqual((path.name, [alias.name for alias in node.names]), ("__main__.py", ["sys"]))
                continue
            self.assertEqual(node.col_offset, 0, (path, node.lineno))
            self.assertEqual((node.level, node.module.split(".")[0]), (0, "glowflock"), path)
            source = PACKAGE.parent / (node.module.replace(".", "/") + ".py")
            for alias in node.names:
                self.assertIn(alias.name, top_names(syntax(source)), (path, node.lineno))

    def test_no_two_files_draw_from_one_another(self):
        left = {"glowflock." + path.stem: drawn_from(path) for path in FILES}
        while left:
            free = [name for name in left if not any(source in left for source in left[name])]
            self.assertTrue(free, sorted(left))
            left = {name: left[name] for name in left if name not in free}


if __name__ == "__main__":
    unittest.main()
