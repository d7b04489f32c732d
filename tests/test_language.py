"""Some of the rules of LANGUAGE.md: those that are easily read off the package's files. The others are not tested here."""

import ast
import builtins
import pathlib
import re
import unittest

PACKAGE = pathlib.Path(__file__).resolve().parent.parent / "formcycle"
FILES = sorted(PACKAGE.rglob("*.py"))

PARTS_OF_CODE = (
    "Module ImportFrom alias FunctionDef ClassDef arguments arg Assign AugAssign If While For Return Break Continue "
    "Pass Raise Try ExceptHandler Expr Name Load Store Constant Attribute Subscript Slice Call keyword Lambda IfExp "
    "List Tuple Dict ListComp comprehension JoinedStr FormattedValue BoolOp And Or UnaryOp Not USub UAdd Invert "
    "BinOp Add Sub Mult FloorDiv Mod Pow BitAnd BitOr BitXor LShift RShift Compare Eq NotEq Lt LtE Gt GtE Is IsNot "
    "In NotIn"
).split()

OWN_NAMES = (
    "len range enumerate zip min max sum abs sorted reversed int str bool list tuple dict set frozenset isinstance "
    "ord repr any all divmod Exception ValueError TypeError KeyError IndexError LookupError ZeroDivisionError "
    "ArithmeticError OverflowError RuntimeError NotImplementedError AttributeError StopIteration"
).split()

METHODS = (
    "append clear copy count endswith extend find get index insert isalnum isalpha isdigit islower isspace isupper "
    "items join keys ljust lower lstrip partition pop remove replace reverse rfind rjust rpartition rsplit rstrip "
    "setdefault split splitlines startswith strip update upper values zfill bit_length __init__"
).split()

WORDS = re.compile(
    r"\b(type|typing|typing_extensions|enum|Enum|IntEnum|StrEnum|Flag|IntFlag|Generic|Protocol|ABC|ABCMeta|namedtuple"
    r"|NamedTuple|TypedDict|TYPE_CHECKING|abstractmethod)\b|dataclass|overload|contextmanager"
)


def trees():
    return [(path.name, ast.parse(path.read_text("ascii"))) for path in FILES]


def nodes(kinds):
    return [(name, node) for name, tree in trees() for node in ast.walk(tree) if isinstance(node, kinds)]


class Files(unittest.TestCase):
    def test_only_plain_python_files(self):
        others = [path for path in PACKAGE.rglob("*") if path.is_file() and path.suffix not in (".py", ".pyc")]
        self.assertEqual(others, [])
        for path in FILES:
            self.assertRegex(path.name, r"^([a-z][a-z0-9_]*|__init__|__main__)\.py$")

    def test_size_and_signs(self):
        for path in FILES:
            rows = path.read_text("ascii").split("\n")
            self.assertLessEqual(len(rows), 401, path)
            for row in rows:
                self.assertLessEqual(len(row), 120, path)
                self.assertRegex(row, r"^[ -~]*$", path)

    def test_words_that_stand_nowhere(self):
        for path in FILES:
            self.assertIsNone(WORDS.search(path.read_text("ascii")), path)


class Code(unittest.TestCase):
    def test_statements_and_expressions(self):
        for name, node in nodes(ast.AST):
            self.assertIn(node.__class__.__name__, PARTS_OF_CODE, (name, getattr(node, "lineno", 0)))

    def test_imports_of_what_a_file_of_the_package_defines(self):
        for name, node in nodes(ast.ImportFrom):
            self.assertEqual(node.level, 0, name)
            path = PACKAGE.parent / (node.module.replace(".", "/") + ".py")
            tree = ast.parse(path.read_text("ascii"))
            defined = [part.name for part in tree.body if isinstance(part, (ast.FunctionDef, ast.ClassDef))]
            defined += [part.targets[0].id for part in tree.body if isinstance(part, ast.Assign)]
            for alias in node.names:
                self.assertIn(alias.name, defined, name)

    def test_functions(self):
        for name, node in nodes(ast.FunctionDef):
            self.assertLessEqual(node.end_lineno - node.lineno + 1, 40, (name, node.name))
            self.assertEqual(node.decorator_list, [], (name, node.name))
            handed = node.args
            self.assertFalse(handed.vararg or handed.kwarg or handed.kwonlyargs or handed.posonlyargs, node.name)

    def test_one_target_in_an_assignment(self):
        for name, node in nodes(ast.Assign):
            self.assertEqual(len(node.targets), 1, (name, node.lineno))
            self.assertNotIsInstance(node.targets[0], (ast.Tuple, ast.List), (name, node.lineno))

    def test_comprehensions(self):
        for name, node in nodes(ast.ListComp):
            self.assertEqual(len(node.generators), 1, (name, node.lineno))
            self.assertLessEqual(len(node.generators[0].ifs), 1, (name, node.lineno))

    def test_no_two_files_draw_from_one_another(self):
        drawn = {"formcycle/" + name: set() for name, tree in trees()}
        for name, node in nodes(ast.ImportFrom):
            drawn["formcycle/" + name].add(node.module.replace(".", "/") + ".py")
        while drawn:
            free = [name for name in drawn if not drawn[name] & set(drawn)]
            self.assertNotEqual(free, [], drawn)
            for name in free:
                del drawn[name]

    def test_texts_and_numbers(self):
        for name, node in nodes(ast.Constant):
            self.assertIn(type(node.value), (int, str, bool, type(None)), (name, node.lineno))
            if type(node.value) is str:
                self.assertNotIn("%", node.value, (name, node.lineno))

    def test_a_written_exponent_alone(self):
        for name, node in nodes(ast.BinOp):
            if isinstance(node.op, ast.Pow):
                self.assertIsInstance(node.right, ast.Constant, (name, node.lineno))

    def test_names(self):
        for name, node in nodes((ast.Name, ast.arg)):
            word = node.id if isinstance(node, ast.Name) else node.arg
            self.assertRegex(word, "^[A-Za-z][A-Za-z0-9_]*$", (name, node.lineno))
            if word in dir(builtins):
                self.assertIn(word, OWN_NAMES, (name, node.lineno))
                self.assertTrue(isinstance(node, ast.Name) and isinstance(node.ctx, ast.Load), (name, node.lineno))

    def test_no_local_is_called_like_a_class_or_an_import_of_its_file(self):
        for name, tree in trees():
            taken = [alias.name for part in tree.body if isinstance(part, ast.ImportFrom) for alias in part.names]
            taken += [part.name for part in tree.body if isinstance(part, ast.ClassDef)]
            for node in ast.walk(tree):
                if isinstance(node, ast.arg):
                    self.assertNotIn(node.arg, taken, (name, node.lineno))
                if isinstance(node, ast.Name) and isinstance(node.ctx, ast.Store):
                    self.assertNotIn(node.id, taken, (name, node.lineno))

    def test_no_name_is_a_method_and_a_value(self):
        methods = [part.name for name, node in nodes(ast.ClassDef) for part in node.body if hasattr(part, "name")]
        for name, node in nodes(ast.Attribute):
            if isinstance(node.ctx, ast.Store):
                self.assertNotIn(node.attr, methods, (name, node.lineno))

    def test_methods(self):
        own = [node.name for name, node in nodes(ast.FunctionDef)]
        for name, node in nodes(ast.Call):
            if isinstance(node.func, ast.Attribute):
                self.assertIn(node.func.attr, METHODS + own, (name, node.lineno))


if __name__ == "__main__":
    unittest.main()
