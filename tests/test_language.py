"""The form of the package's own files: the rules of LANGUAGE.md that reading a file can tell."""

import ast
import builtins
import pathlib
import re
import unittest

FOLDER = pathlib.Path(__file__).resolve().parent.parent / "moonseat"
OWN_NAMES = set(
    "len range enumerate zip min max sum abs sorted reversed int str bool bytes list tuple dict set frozenset "
    "isinstance ord repr any all divmod Exception ValueError TypeError KeyError IndexError LookupError "
    "ZeroDivisionError ArithmeticError OverflowError RuntimeError NotImplementedError AttributeError "
    "StopIteration".split()
)
NO_NODES = (
    ast.With, ast.Match, ast.Global, ast.Nonlocal, ast.Yield, ast.YieldFrom, ast.Await, ast.AsyncFunctionDef,
    ast.AsyncFor, ast.AsyncWith, ast.GeneratorExp, ast.NamedExpr, ast.Div, ast.Import, ast.MatMult,
)
NO_WORDS = re.compile(
    r"\b(type|typing|typing_extensions|enum|Enum|IntEnum|StrEnum|Flag|IntFlag|Generic|Protocol|ABC|ABCMeta|"
    r"namedtuple|NamedTuple|TypedDict|TYPE_CHECKING|abstractmethod)\b|dataclass|overload|contextmanager"
)
METHODS = set(
    "append clear copy count endswith extend find get index insert isalnum isalpha isdigit islower isspace isupper "
    "items join keys ljust lower lstrip partition pop remove replace reverse rfind rjust rpartition rsplit rstrip "
    "setdefault split splitlines startswith strip update upper values zfill bit_length add discard sort".split()
)
NO_NAMES = set("register mro elements open input version_info with_traceback add_note format format_map".split())


def files():
    return {path.stem: path.read_text(encoding="utf-8") for path in sorted(FOLDER.glob("*.py"))}


def trees():
    return {name: ast.parse(text) for name, text in files().items()}


def nodes():
    return [(name, node) for name, tree in trees().items() for node in ast.walk(tree)]


class FilesTest(unittest.TestCase):
    def test_nothing_else_lies_in_the_folder(self):
        lying = [path.name for path in FOLDER.iterdir() if path.name != "__pycache__"]
        self.assertTrue(all(re.fullmatch(r"[a-z0-9_]+\.py", name) for name in lying), lying)

    def test_signs_and_sizes(self):
        for name, text in files().items():
            lines = text.split("\n")
            self.assertTrue(all(sign == "\n" or " " <= sign <= "~" for sign in text), name)
            self.assertLessEqual(len(lines), 400, name)
            self.assertLessEqual(max(map(len, lines)), 120, name)
            self.assertIsNone(NO_WORDS.search(text), name)

    def test_functions_are_small(self):
        for name, node in nodes():
            if isinstance(node, ast.FunctionDef):
                self.assertLessEqual(node.end_lineno - node.lineno + 1, 40, (name, node.name))
                self.assertEqual(node.decorator_list, [])


class NamesTest(unittest.TestCase):
    def test_kinds_of_rows_and_values(self):
        for name, node in nodes():
            self.assertNotIsInstance(node, NO_NODES, name)
            if isinstance(node, ast.Constant):
                self.assertNotIsInstance(node.value, (float, complex), name)
                self.assertNotIn("%", str(node.value), name)
            if isinstance(node, (ast.For, ast.While)):
                self.assertEqual(node.orelse, [], (name, node.lineno))
            if isinstance(node, ast.Compare) and isinstance(node.ops[0], (ast.Is, ast.IsNot)):
                self.assertIsInstance(node.comparators[0], ast.Constant, (name, node.lineno))

    def test_stars_stand_in_what_is_given_alone(self):
        for name, node in nodes():
            if isinstance(node, ast.Starred):
                self.assertIsInstance(node.ctx, ast.Store, (name, node.lineno))
            if isinstance(node, ast.arguments):
                self.assertEqual((node.vararg, node.kwarg, node.posonlyargs), (None, None, []), name)

    def test_methods_and_values_are_known(self):
        own = {node.name for name, node in nodes() if isinstance(node, ast.FunctionDef)}
        own |= {n.attr for name, n in nodes() if isinstance(n, ast.Attribute) and isinstance(n.ctx, ast.Store)}
        for name, node in nodes():
            if isinstance(node, ast.Attribute):
                self.assertIn(node.attr, own | METHODS, (name, node.lineno))

    def test_names_are_plain(self):
        for name, node in nodes():
            for field in ("id", "attr", "arg", "name"):
                found = getattr(node, field, None)
                if isinstance(found, str) and not re.fullmatch(r"__(init|eq|repr|str|len)__", found):
                    self.assertRegex(found, r"\A[A-Za-z][A-Za-z0-9_]*\Z", (name, node.lineno))
                    self.assertNotIn(found, NO_NAMES, (name, node.lineno))

    def test_pythons_own_names_are_read_alone(self):
        for name, node in nodes():
            if isinstance(node, ast.Name) and hasattr(builtins, node.id):
                self.assertIn(node.id, OWN_NAMES, (name, node.lineno))
                self.assertIsInstance(node.ctx, ast.Load, (name, node.lineno))
            if isinstance(node, ast.arg):
                self.assertFalse(hasattr(builtins, node.arg), (name, node.arg))

    def test_no_name_is_a_method_and_a_value(self):
        methods, values = set(), set()
        for name, node in nodes():
            if isinstance(node, ast.ClassDef):
                methods |= {row.name for row in node.body if isinstance(row, ast.FunctionDef)}
            if isinstance(node, ast.Attribute) and isinstance(node.ctx, ast.Store):
                values.add(node.attr)
        self.assertEqual(methods & values, set())


class ImportsTest(unittest.TestCase):
    def test_imports_come_from_the_file_that_defines_the_name(self):
        made = {name: self.defined(tree) for name, tree in trees().items()}
        for name, node in nodes():
            if isinstance(node, ast.ImportFrom):
                package, drawn = node.module.split(".")
                self.assertEqual((package, node.level), ("moonseat", 0), name)
                for alias in node.names:
                    self.assertIn(alias.name, made[drawn], name)

    def defined(self, tree):
        names = [row.name for row in tree.body if isinstance(row, (ast.FunctionDef, ast.ClassDef))]
        names += [target.id for row in tree.body if isinstance(row, ast.Assign) for target in row.targets]
        self.assertEqual(len(names), len(set(names)))
        return names

    def test_no_two_files_draw_from_one_another(self):
        drawn = {
            name: {node.module.split(".")[1] for node in tree.body if isinstance(node, ast.ImportFrom)}
            for name, tree in trees().items()
        }
        while drawn:
            free = [name for name in drawn if not drawn[name]]
            self.assertTrue(free, drawn)
            drawn = {name: above - set(free) for name, above in drawn.items() if name not in free}

    def test_no_local_is_called_like_a_class_or_an_import_of_its_file(self):
        for name, tree in trees().items():
            taken = {row.name for row in tree.body if isinstance(row, ast.ClassDef)}
            taken |= {a.asname or a.name for row in tree.body if isinstance(row, ast.ImportFrom) for a in row.names}
            for node in ast.walk(tree):
                if isinstance(node, ast.arg):
                    self.assertNotIn(node.arg, taken, name)
                if isinstance(node, ast.Name) and isinstance(node.ctx, ast.Store):
                    self.assertNotIn(node.id, taken, name)
