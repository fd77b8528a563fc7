"""Tests that the files of the package keep to the rules of LANGUAGE.md that a short program can check."""

import ast
import builtins
import pathlib
import re
import unittest

FOLDER = pathlib.Path(__file__).resolve().parent.parent / "inkghost"
ALLOWED_BUILTINS = set(
    "len range enumerate zip min max sum abs sorted reversed int str bool list tuple dict set isinstance ord repr "
    "any all divmod iter next super property staticmethod classmethod ValueError KeyError IndexError LookupError "
    "TypeError ZeroDivisionError Exception".split()
)
METHODS = set(
    "__init__ __eq__ __repr__ __str__ __len__ __enter__ __exit__ __call__ __iter__ __lt__ __contains__".split()
)
BARRED_WORDS = (
    r"\b(type|typing|typing_extensions|enum|Enum|IntEnum|StrEnum|Flag|IntFlag|Generic|Protocol|ABC|ABCMeta|namedtuple"
    r"|NamedTuple|TypedDict|TYPE_CHECKING|abstractmethod)\b|dataclass|overload|contextmanager"
)
BARRED_NAMES = set(
    "register mro elements open input law version_info with_traceback add_note breakpoint compile dir eval exec exit gc "
    "getattr globals hasattr help id locals os quit setattr vars sys format chr bytes frozenset".split()
)
BARRED_NODES = (
    ast.Global, ast.AsyncFunctionDef, ast.Await, ast.AsyncFor, ast.AsyncWith, ast.Import, ast.Div, ast.GeneratorExp,
)
MODULE_NODES = (ast.ImportFrom, ast.FunctionDef, ast.ClassDef, ast.Assign)


def named(node):
    """Give the name that a node binds or reads, if it has one."""
    for field in ("id", "attr", "arg", "name"):
        if isinstance(getattr(node, field, None), str):
            return getattr(node, field)
    return None


def is_docstring(node):
    return isinstance(node, ast.Expr) and isinstance(node.value, ast.Constant) and isinstance(node.value.value, str)


class LanguageTest(unittest.TestCase):
    def setUp(self):
        self.texts = {path.name: path.read_text("utf-8") for path in sorted(FOLDER.glob("*.py"))}
        self.trees = {name: ast.parse(text) for name, text in self.texts.items()}

    def nodes(self, *kinds):
        found = [(name, node) for name, tree in self.trees.items() for node in ast.walk(tree)]
        return [(name, node) for name, node in found if isinstance(node, kinds)]

    def test_files(self):
        here = sorted(path.name for path in FOLDER.iterdir() if path.name != "__pycache__")
        self.assertEqual(here, sorted(self.texts))
        for name, text in self.texts.items():
            self.assertRegex(name, r"\A[a-z0-9_]+\.py\Z")
            self.assertRegex(text, r"\A[ -~\n]*\Z", name)
            self.assertIsNone(re.search(BARRED_WORDS, text), name)

    def test_sizes(self):
        for name, text in self.texts.items():
            self.assertLess(len(text.splitlines()), 400, name)
            self.assertLessEqual(max(len(line) for line in text.splitlines()), 120, name)
        for name, node in self.nodes(ast.FunctionDef):
            self.assertLessEqual(node.end_lineno - node.lineno + 1, 40, (name, node.name))

    def test_module_level(self):
        for name, tree in self.trees.items():
            rest = tree.body[1:] if is_docstring(tree.body[0]) else tree.body
            imports = [node for node in rest if isinstance(node, ast.ImportFrom)]
            self.assertEqual(rest[:len(imports)], imports, name)
            self.assertTrue(all(isinstance(node, MODULE_NODES) for node in rest), name)

    def test_imports_name_the_file_that_defines_the_name(self):
        for name, node in self.nodes(ast.ImportFrom):
            self.assertEqual(node.level, 0, name)
            package, file = node.module.split(".")
            self.assertEqual(package, "inkghost", name)
            body = self.trees[file + ".py"].body
            defined = {named(one) for one in body if not isinstance(one, ast.ImportFrom)}
            defined |= {named(one.targets[0]) for one in body if isinstance(one, ast.Assign)}
            for alias in node.names:
                self.assertIsNone(alias.asname, name)
                self.assertIn(alias.name, defined, name)

    def test_statements_and_values(self):
        self.assertEqual(self.nodes(*BARRED_NODES), [])
        for name, node in self.nodes(ast.Constant):
            self.assertNotIsInstance(node.value, (float, complex), name)
            self.assertFalse(isinstance(node.value, str) and "%" in node.value, name)
        for name, node in self.nodes(ast.BinOp):
            if isinstance(node.op, ast.Pow):
                self.assertIsInstance(node.right, ast.Constant, name)
        for name, node in self.nodes(ast.Compare):
            for sign, right in zip(node.ops, node.comparators):
                if isinstance(sign, (ast.Is, ast.IsNot)):
                    self.assertIn(right.value, (None, True, False), name)

    def test_names(self):
        for name, node in self.nodes(ast.AST):
            word = named(node)
            if word is None or isinstance(node, ast.alias):
                continue
            self.assertNotIn(word, BARRED_NAMES, name)
            if word.startswith("_"):
                self.assertIn(word, METHODS, name)
            if isinstance(node, ast.Name) and word in vars(builtins):
                self.assertIsInstance(node.ctx, ast.Load, name)
                self.assertIn(word, ALLOWED_BUILTINS, name)
            if isinstance(node, (ast.arg, ast.FunctionDef, ast.ClassDef)):
                self.assertNotIn(word, vars(builtins), name)

    def test_local_names_are_not_those_of_classes_and_imports(self):
        for name, tree in self.trees.items():
            taken = {node.name for node in tree.body if isinstance(node, ast.ClassDef)}
            taken |= {alias.name for node in tree.body if isinstance(node, ast.ImportFrom) for alias in node.names}
            for node in ast.walk(tree):
                if isinstance(node, ast.arg) or isinstance(node, ast.Name) and isinstance(node.ctx, ast.Store):
                    self.assertNotIn(named(node), taken, name)

    def test_ends_of_trials_only_assign_attributes(self):
        for name, node in self.nodes(ast.FunctionDef):
            if node.name == "__exit__":
                for row in node.body:
                    self.assertIsInstance(row, ast.Assign, name)
                    self.assertEqual([*map(type, row.targets), type(row.value)], [ast.Attribute] * 2, name)

    def test_names_of_properties_are_not_stored(self):
        names = {node.name for _, node in self.nodes(ast.FunctionDef) if node.decorator_list}
        stored = {node.attr for _, node in self.nodes(ast.Attribute) if isinstance(node.ctx, ast.Store)}
        self.assertEqual(names, {"banks", "bound", "prices", "follows", "state", "journal"})
        self.assertEqual(names & stored, set())

    def test_no_name_is_a_method_and_an_attribute(self):
        methods = {one.name for _, node in self.nodes(ast.ClassDef) for one in node.body
                   if isinstance(one, ast.FunctionDef) and not one.decorator_list}
        stored = {node.attr for _, node in self.nodes(ast.Attribute) if isinstance(node.ctx, ast.Store)}
        self.assertEqual(methods & stored, set())


if __name__ == "__main__":
    unittest.main()
