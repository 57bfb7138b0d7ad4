"""The package keeps to the rules of its language, as far as they show in a file's words and shape."""

import ast
import builtins
import pathlib
import re
import unittest

PACKAGE = pathlib.Path(__file__).resolve().parent.parent / "logdelve"
BUILTINS = set(
    "len range enumerate zip min max sum abs sorted reversed int str bool bytes list tuple dict set frozenset "
    "isinstance ord repr any all divmod Exception ValueError TypeError KeyError IndexError LookupError "
    "ZeroDivisionError ArithmeticError OverflowError RuntimeError NotImplementedError AttributeError StopIteration "
    "property staticmethod classmethod super".split()
)
METHODS = set("__init__ __eq__ __repr__ __str__ __len__ __enter__ __exit__".split())
BARRED_WORDS = re.compile(
    r"\b(type|typing|typing_extensions|enum|Enum|IntEnum|StrEnum|Flag|IntFlag|Generic|Protocol|ABC|ABCMeta"
    r"|namedtuple|NamedTuple|TypedDict|TYPE_CHECKING|abstractmethod)\b|dataclass|overload|contextmanager"
)
BARRED_NODES = (
    ast.Global, ast.AsyncFunctionDef, ast.AsyncFor, ast.AsyncWith, ast.Await, ast.NamedExpr, ast.Div,
    ast.Import, ast.TryStar,
)
CALLED_METHODS = set(
    "append clear copy count endswith extend find get index insert isalnum isalpha isdigit islower isspace isupper items "
    "join keys ljust lower lstrip partition pop remove replace reverse rfind rjust rpartition rsplit rstrip setdefault "
    "split splitlines startswith strip update upper values zfill bit_length title capitalize swapcase casefold center "
    "removeprefix removesuffix rindex isascii isdecimal isnumeric istitle isidentifier isprintable".split()
)
BARRED_NAMES = set(
    "register mro elements open input version_info with_traceback add_note attrgetter breakpoint builtins compile "
    "copyright credits delattr dir eval exec exit gc getattr globals hasattr help id importlib license locals "
    "methodcaller os quit setattr vars sys format format_map".split()
)
MODULE_NODES = (ast.Expr, ast.ImportFrom, ast.FunctionDef, ast.ClassDef, ast.Assign)
SET_NODES = (ast.Set, ast.SetComp)


def files():
    return sorted(PACKAGE.rglob("*.py"))


def texts():
    return [(path.name, path.read_text(encoding="utf-8")) for path in files()]


def trees():
    return [(name, ast.parse(text)) for name, text in texts()]


def nodes(*kinds):
    return [(name, node) for name, tree in trees() for node in ast.walk(tree) if isinstance(node, kinds)]


def bound_names(node):
    """Tell the names that a node gives a meaning, or reads off an object."""
    if isinstance(node, ast.Name):
        return [node.id]
    if isinstance(node, (ast.FunctionDef, ast.ClassDef)):
        return [node.name]
    if isinstance(node, ast.arg):
        return [node.arg]
    if isinstance(node, ast.Attribute):
        return [node.attr]
    return []


class Files(unittest.TestCase):
    def test_the_folder_holds_python_files_of_plain_names_alone(self):
        self.assertTrue((PACKAGE / "__init__.py").is_file())
        for path in PACKAGE.iterdir():
            if path.name != "__pycache__":
                self.assertRegex(path.name, r"^(__init__|[a-z][a-z0-9_]*)\.py$")

    def test_signs_and_sizes(self):
        for name, text in texts():
            with self.subTest(name):
                self.assertRegex(text, r"\A[ -~\n]*\Z")
                lines = text.splitlines()
                self.assertLessEqual(len(lines), 400)
                self.assertLessEqual(max(len(line) for line in lines), 120)

    def test_functions_are_small(self):
        for name, node in nodes(ast.FunctionDef):
            with self.subTest(f"{name} {node.name}"):
                self.assertLessEqual(node.end_lineno - node.lineno + 1, 40)

    def test_barred_words(self):
        for name, text in texts():
            with self.subTest(name):
                self.assertIsNone(BARRED_WORDS.search(text))


class Shape(unittest.TestCase):
    def test_imports_name_the_package_in_full(self):
        for name, node in nodes(ast.ImportFrom):
            with self.subTest(f"{name} {node.lineno}"):
                self.assertEqual(node.level, 0)
                self.assertRegex(node.module, r"^logdelve\.[a-z_]+$")
                self.assertNotIn("*", [told.name for told in node.names])

    def test_module_level(self):
        for name, tree in trees():
            for node in tree.body:
                with self.subTest(f"{name} {node.lineno}"):
                    self.assertIsInstance(node, MODULE_NODES)
                    if isinstance(node, ast.Expr):
                        self.assertIs(node, tree.body[0])
                    if isinstance(node, ast.Assign):
                        self.assertFalse([part for part in ast.walk(node) if isinstance(part, SET_NODES)])

    def test_barred_statements_and_signs(self):
        found = [f"{name} {node.lineno}" for name, node in nodes(*BARRED_NODES) if hasattr(node, "lineno")]
        self.assertEqual(found, [])
        self.assertEqual(nodes(ast.Div), [])

    def test_values(self):
        for name, node in nodes(ast.Constant):
            with self.subTest(f"{name} {node.lineno}"):
                self.assertNotIsInstance(node.value, (float, complex))
                if isinstance(node.value, str):
                    self.assertNotIn("%", node.value)

    def test_names(self):
        for name, node in nodes(ast.Name, ast.FunctionDef, ast.ClassDef, ast.arg, ast.Attribute):
            for told in bound_names(node):
                with self.subTest(f"{name} {node.lineno} {told}"):
                    self.assertTrue(told in METHODS or re.fullmatch(r"[A-Za-z][A-Za-z0-9_]*", told))

    def test_builtins(self):
        for name, node in nodes(ast.Name):
            if hasattr(builtins, node.id):
                with self.subTest(f"{name} {node.lineno} {node.id}"):
                    self.assertIn(node.id, BUILTINS)
                    self.assertIsInstance(node.ctx, ast.Load)
        for name, node in nodes(ast.FunctionDef, ast.arg):
            with self.subTest(f"{name} {node.lineno}"):
                self.assertTrue(bound_names(node)[0] in METHODS or not hasattr(builtins, bound_names(node)[0]))

    def test_is_stands_beside_none_and_flags_alone(self):
        for name, node in nodes(ast.Compare):
            for sign, part in zip(node.ops, node.comparators):
                if isinstance(sign, (ast.Is, ast.IsNot)):
                    with self.subTest(f"{name} {node.lineno}"):
                        self.assertIsInstance(part, ast.Constant)
                        self.assertIn(part.value, (None, True, False))

    def test_no_name_that_is_barred(self):
        for name, node in nodes(ast.Name, ast.FunctionDef, ast.ClassDef, ast.arg, ast.Attribute):
            with self.subTest(f"{name} {node.lineno}"):
                self.assertFalse(BARRED_NAMES.intersection(bound_names(node)))

    def test_methods_that_are_called(self):
        own = {node.name for name, tree in nodes(ast.ClassDef) for node in ast.walk(tree) if isinstance(node, ast.FunctionDef)}
        for name, node in nodes(ast.Call):
            if isinstance(node.func, ast.Attribute):
                with self.subTest(f"{name} {node.lineno}"):
                    self.assertIn(node.func.attr, own | CALLED_METHODS)

    def test_no_name_is_a_method_and_an_attribute(self):
        methods = {node.name for name, tree in nodes(ast.ClassDef) for node in ast.walk(tree) if isinstance(node, ast.FunctionDef)}
        attributes = {node.attr for name, node in nodes(ast.Attribute) if isinstance(node.ctx, ast.Store)}
        self.assertEqual(methods & attributes, set())

    def test_one_meaning_for_each_name(self):
        for name, tree in trees():
            imports = [told.name for node in tree.body if isinstance(node, ast.ImportFrom) for told in node.names]
            classes = [node.name for node in tree.body if isinstance(node, ast.ClassDef)]
            functions = [node.name for node in tree.body if isinstance(node, ast.FunctionDef)]
            assigned = [node.targets[0].id for node in tree.body if isinstance(node, ast.Assign)]
            told = [*imports, *classes, *functions, *assigned]
            self.assertEqual(len(told), len(set(told)), name)
            for node in ast.walk(tree):
                if isinstance(node, ast.arg) or isinstance(node, ast.Name) and isinstance(node.ctx, ast.Store):
                    with self.subTest(f"{name} {node.lineno}"):
                        self.assertFalse({*imports, *classes}.intersection(bound_names(node)))

    def test_no_two_files_import_from_each_other(self):
        ahead = {}
        for name, tree in trees():
            found = [node.module for node in tree.body if isinstance(node, ast.ImportFrom)]
            ahead["logdelve." + name.removesuffix(".py")] = found
        while ahead:
            free = [name for name in ahead if not [other for other in ahead[name] if other in ahead]]
            self.assertTrue(free, sorted(ahead))
            for name in free:
                del ahead[name]

    def test_each_import_names_the_file_that_defines_the_name(self):
        defined = {}
        for name, tree in trees():
            told = [node.name for node in tree.body if isinstance(node, (ast.FunctionDef, ast.ClassDef))]
            told += [node.targets[0].id for node in tree.body if isinstance(node, ast.Assign)]
            defined["logdelve." + name.removesuffix(".py")] = told
        for name, node in nodes(ast.ImportFrom):
            for told in node.names:
                with self.subTest(f"{name} {told.name}"):
                    self.assertIn(told.name, defined[node.module])

    def test_each_import_is_used(self):
        for name, tree in trees():
            used = {node.id for node in ast.walk(tree) if isinstance(node, ast.Name)}
            for node in tree.body:
                if isinstance(node, ast.ImportFrom):
                    self.assertLessEqual({told.name for told in node.names}, used, name)
