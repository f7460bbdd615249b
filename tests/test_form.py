"""The form of the package's files: some of the rules of LANGUAGE.md, not all of them."""

import ast
import builtins
import pathlib
import re
import unittest

PACKAGE = pathlib.Path(__file__).resolve().parent.parent / "cornerdoors"
FILES = sorted(PACKAGE.glob("*.py"))
TEXTS = [path.read_bytes().decode("utf-8") for path in FILES]
TREES = [ast.parse(text) for text in TEXTS]

NODES = """Module Expr Import ImportFrom alias FunctionDef ClassDef arguments arg Lambda keyword
Assign AugAssign If While For Return Break Continue Pass Raise Try ExceptHandler Call
Constant Name Attribute Subscript Slice List Tuple Dict Set ListComp comprehension JoinedStr FormattedValue
BinOp UnaryOp BoolOp Compare IfExp Load Store And Or Not USub UAdd Invert
Add Sub Mult FloorDiv Mod Pow BitAnd BitOr BitXor LShift RShift
Eq NotEq Lt LtE Gt GtE Is IsNot In NotIn""".split()

BUILTINS = """len range enumerate zip min max sum abs sorted reversed int str bool list tuple dict set frozenset
isinstance ord repr any all divmod ValueError Exception TypeError KeyError IndexError LookupError
ZeroDivisionError ArithmeticError OverflowError RuntimeError NotImplementedError StopIteration""".split()

METHODS = """append clear copy count endswith extend find get index insert isalnum isalpha isdigit islower isspace
isupper items join keys ljust lower lstrip partition pop remove replace reverse rfind rjust rpartition rsplit rstrip
setdefault split splitlines startswith strip update upper values zfill bit_length""".split()

WORDS = re.compile(r"\b(type|typing|typing_extensions|enum|Enum|IntEnum|StrEnum|Flag|IntFlag|Generic|Protocol|ABC"
                   r"|ABCMeta|namedtuple|NamedTuple|TypedDict|TYPE_CHECKING|abstractmethod)\b"
                   r"|dataclass|overload|contextmanager")


def bound_names(tree):
    names = []
    for node in ast.walk(tree):
        if isinstance(node, (ast.FunctionDef, ast.ClassDef)):
            names.append(node.name)
        elif isinstance(node, ast.arg):
            names.append(node.arg)
        elif isinstance(node, ast.alias):
            names.append(node.asname or node.name)
        elif isinstance(node, ast.Name) and isinstance(node.ctx, ast.Store):
            names.append(node.id)
        elif isinstance(node, ast.ExceptHandler) and node.name:
            names.append(node.name)
    return names


def top_names(tree):
    names = [node.name for node in tree.body if isinstance(node, (ast.FunctionDef, ast.ClassDef))]
    for node in tree.body:
        if isinstance(node, ast.Assign):
            names.extend(target.id for target in node.targets)
    return names


def imported_names(tree):
    return [each.asname or each.name for node in tree.body if isinstance(node, ast.ImportFrom) for each in node.names]


def is_text(node):
    return isinstance(node, ast.Expr) and isinstance(node.value, ast.Constant) and isinstance(node.value.value, str)


class Form(unittest.TestCase):
    def test_the_package_holds_plain_files_alone(self):
        self.assertIn(PACKAGE / "__init__.py", FILES)
        others = [path.name for path in PACKAGE.iterdir() if path not in FILES and path.name != "__pycache__"]
        self.assertEqual(others, [])
        for path in FILES:
            self.assertRegex(path.name, r"^([a-z][a-z0-9_]*|__init__)\.py$")

    def test_signs_and_size(self):
        for text, tree in zip(TEXTS, TREES):
            self.assertRegex(text, r"\A[ -~\n]*\Z")
            self.assertLessEqual(len(text.splitlines()), 400)
            self.assertLessEqual(max(map(len, text.splitlines())), 120)
            for node in ast.walk(tree):
                if isinstance(node, ast.FunctionDef):
                    self.assertLessEqual(node.end_lineno - node.lineno + 1, 40, node.name)

    def test_words_that_stand_nowhere(self):
        for text in TEXTS:
            self.assertIsNone(WORDS.search(text))

    def test_statements_and_expressions(self):
        for tree in TREES:
            for node in ast.walk(tree):
                self.assertIn(type(node).__name__, NODES)
                if isinstance(node, ast.Expr) and node is not tree.body[0]:
                    self.assertIsInstance(node.value, ast.Call)
                if isinstance(node, (ast.FunctionDef, ast.ClassDef)):
                    self.assertEqual(node.decorator_list, [])
                if isinstance(node, ast.Assign):
                    self.assertEqual(len(node.targets), 1)
                if isinstance(node, (ast.For, ast.While)):
                    self.assertEqual(node.orelse, [])
                if isinstance(node, ast.Try):
                    self.assertEqual(node.finalbody, [])
                if isinstance(node, ast.ListComp):
                    self.assertEqual(len(node.generators), 1)
                    self.assertLessEqual(len(node.generators[0].ifs), 1)
                if isinstance(node, ast.FormattedValue):
                    self.assertIsInstance(node.value, ast.Name)
                if isinstance(node, ast.Constant):
                    self.assertIn(type(node.value), (int, str, bool, type(None)))

    def test_the_top_of_a_file(self):
        for tree in TREES:
            self.assertTrue(is_text(tree.body[0]))
            for node in tree.body[1:]:
                self.assertIsInstance(node, (ast.ImportFrom, ast.FunctionDef, ast.ClassDef, ast.Assign))
                if isinstance(node, ast.ClassDef):
                    for inner in node.body:
                        self.assertIsInstance(inner, (ast.FunctionDef, ast.Pass))

    def test_imports_are_the_package_s_own(self):
        for tree in TREES:
            for node in ast.walk(tree):
                self.assertNotIsInstance(node, ast.Import)
                if isinstance(node, ast.ImportFrom):
                    self.assertEqual(node.level, 0)
                    self.assertRegex(node.module, r"^cornerdoors\.[a-z0-9_]+$")
                    self.assertNotIn("*", [each.name for each in node.names])

    def test_imports_come_from_the_file_that_defines_the_name(self):
        for tree in TREES:
            for node in tree.body:
                if isinstance(node, ast.ImportFrom):
                    drawn = TREES[FILES.index(PACKAGE / (node.module.split(".")[1] + ".py"))]
                    for each in node.names:
                        self.assertIn(each.name, top_names(drawn))

    def test_no_two_files_draw_from_one_another(self):
        drawn = {}
        for path, tree in zip(FILES, TREES):
            modules = [node.module for node in tree.body if isinstance(node, ast.ImportFrom)]
            drawn["cornerdoors." + path.stem] = modules
        settled = []
        while len(settled) < len(drawn):
            free = [name for name in drawn if name not in settled and set(drawn[name]) <= set(settled)]
            self.assertNotEqual(free, [])
            settled.extend(free)

    def test_no_local_is_called_like_a_name_of_its_file_s_top(self):
        for tree in TREES:
            taken = top_names(tree) + imported_names(tree)
            self.assertEqual(len(taken), len(set(taken)))
            for node in tree.body:
                if isinstance(node, ast.FunctionDef):
                    inner = [name for part in node.body + [node.args] for name in bound_names(part)]
                    self.assertEqual([name for name in inner if name in taken], [])

    def test_is_stands_beside_none_true_and_false(self):
        for tree in TREES:
            for node in ast.walk(tree):
                if isinstance(node, ast.Compare):
                    for sign, value in zip(node.ops, node.comparators):
                        if isinstance(sign, (ast.Is, ast.IsNot)):
                            self.assertIn(ast.dump(value), [ast.dump(ast.Constant(each)) for each in (None, True, False)])

    def test_no_set_is_kept(self):
        for tree in TREES:
            for node in ast.walk(tree):
                self.assertNotIsInstance(node, ast.Set)
                if isinstance(node, ast.Name):
                    self.assertNotIn(node.id, ("set", "frozenset"))

    def test_names(self):
        for tree in TREES:
            bound = bound_names(tree)
            for name in bound:
                self.assertTrue(name == "__init__" or re.fullmatch(r"[A-Za-z][A-Za-z0-9_]*", name), name)
                self.assertNotIn(name, dir(builtins))
            for node in ast.walk(tree):
                if isinstance(node, ast.Name):
                    self.assertIn(node.id, bound + BUILTINS)

    def test_methods_of_python_s_own_values(self):
        own = []
        for tree in TREES:
            own.extend(node.name for node in ast.walk(tree) if isinstance(node, ast.FunctionDef))
        for tree in TREES:
            for node in ast.walk(tree):
                if isinstance(node, ast.Call) and isinstance(node.func, ast.Attribute):
                    self.assertIn(node.func.attr, METHODS + own)


if __name__ == "__main__":
    unittest.main()
