"""Those rules of the language that a look at the package's files can tell."""

import ast
import builtins
import pathlib
import re
import unittest
import warnings

PACKAGE = pathlib.Path(__file__).resolve().parent.parent / "tipwebs"
FILES = sorted(PACKAGE.rglob("*.py"))

BUILTINS = set(
    "len range enumerate zip min max sum abs sorted reversed int str bool bytes list tuple dict set frozenset isinstance "
    "ord repr any all divmod Exception ValueError TypeError KeyError IndexError LookupError ZeroDivisionError "
    "ArithmeticError OverflowError RuntimeError NotImplementedError AttributeError StopIteration NotImplemented".split())
METHODS = set(
    "append clear copy count endswith extend find get index insert isalnum isalpha isdigit islower isspace isupper items "
    "join keys ljust lower lstrip partition pop remove replace reverse rfind rjust rpartition rsplit rstrip setdefault "
    "split splitlines startswith strip update upper values zfill bit_length add discard sort".split())
WORDS = re.compile(
    r"\b(type|typing|typing_extensions|enum|Enum|IntEnum|StrEnum|Flag|IntFlag|Generic|Protocol|ABC|ABCMeta|namedtuple|"
    r"NamedTuple|TypedDict|TYPE_CHECKING|abstractmethod)\b|dataclass|overload|contextmanager")
BARRED = (ast.Global, ast.AsyncFunctionDef, ast.AsyncFor, ast.AsyncWith, ast.Await, ast.Div, ast.Import)


def own_names(tree):
    """The names of the functions and classes of a file."""
    return {node.name for node in ast.walk(tree) if isinstance(node, (ast.FunctionDef, ast.ClassDef))}


class LanguageTest(unittest.TestCase):
    def setUp(self):
        self.texts = {path: path.read_text(encoding="utf-8") for path in FILES}
        self.trees = {path: ast.parse(text) for path, text in self.texts.items()}

    def nodes(self, kinds):
        for path, tree in self.trees.items():
            for node in ast.walk(tree):
                if isinstance(node, kinds):
                    yield f"{path.name}:{getattr(node, 'lineno', 0)}", node

    def test_the_folder_holds_plain_files_only(self):
        found = [path for path in PACKAGE.rglob("*") if "__pycache__" not in path.parts]
        self.assertEqual([path for path in found if not re.fullmatch(r"[a-z0-9_]+\.py", path.name)], [])
        self.assertTrue((PACKAGE / "__init__.py").is_file())

    def test_sizes_and_characters(self):
        for path, text in self.texts.items():
            lines = text.split("\n")
            self.assertLessEqual(len(lines), 401, path)
            self.assertLessEqual(max(map(len, lines)), 120, path)
            self.assertEqual([mark for mark in text if mark != "\n" and not " " <= mark <= "~"], [], path)
        for where, node in self.nodes(ast.FunctionDef):
            self.assertLessEqual(node.end_lineno - node.lineno + 1, 40, where)

    def test_words_that_do_not_occur(self):
        for path, text in self.texts.items():
            self.assertIsNone(WORDS.search(text), path)
        for where, node in self.nodes(ast.Constant):
            self.assertFalse(isinstance(node.value, float), where)
            self.assertFalse(isinstance(node.value, str) and "%" in node.value, where)
        for where, node in self.nodes(BARRED):
            self.fail(f"{where} {node}")

    def test_python_gives_no_warning(self):
        with warnings.catch_warnings():
            warnings.simplefilter("error")
            for path, text in self.texts.items():
                compile(text, str(path), "exec")

    def test_imports_name_the_very_file_that_defines_the_name(self):
        for where, node in self.nodes(ast.ImportFrom):
            self.assertEqual(node.level, 0, where)
            self.assertRegex(node.module, r"^tipwebs\.[a-z0-9_]+$", where)
            tree = self.trees[PACKAGE / (node.module.split(".")[1] + ".py")]
            bound = own_names(tree) | {name.id for line in tree.body if isinstance(line, ast.Assign)
                                       for name in line.targets}
            self.assertLessEqual({alias.name for alias in node.names}, bound, where)

    def test_no_two_files_import_from_each_other(self):
        needs = {path.stem: {node.module.split(".")[1] for node in ast.walk(tree) if isinstance(node, ast.ImportFrom)}
                 for path, tree in self.trees.items()}
        while needs:
            free = [name for name in needs if not needs[name] & set(needs)]
            self.assertTrue(free, needs)
            needs = {name: needs[name] for name in needs if name not in free}

    def test_powers_have_literal_exponents(self):
        for where, node in self.nodes(ast.BinOp):
            if isinstance(node.op, ast.Pow):
                self.assertIsInstance(node.right, ast.Constant, where)

    def test_module_level_holds_definitions_only(self):
        for path, tree in self.trees.items():
            self.assertTrue(ast.get_docstring(tree), path)
            for node in tree.body[1:]:
                self.assertIsInstance(node, (ast.ImportFrom, ast.FunctionDef, ast.ClassDef, ast.Assign), path)

    def test_names_are_plain_and_builtins_few(self):
        for where, node in self.nodes((ast.Name, ast.arg, ast.FunctionDef, ast.ClassDef)):
            name = getattr(node, "id", None) or getattr(node, "arg", None) or node.name
            self.assertTrue(name == "__init__" or not name.startswith("_"), where)
            if hasattr(builtins, name) and name != "__init__":
                self.assertIn(name, BUILTINS, where)
                self.assertTrue(isinstance(node, ast.Name) and isinstance(node.ctx, ast.Load), where)

    def test_methods_are_own_ones_or_listed(self):
        own = set().union(*map(own_names, self.trees.values()))
        for where, node in self.nodes(ast.Call):
            if isinstance(node.func, ast.Attribute):
                self.assertIn(node.func.attr, METHODS | own, where)

    def test_is_stands_with_none_true_and_false_only(self):
        for where, node in self.nodes(ast.Compare):
            for sign, value in zip(node.ops, node.comparators):
                if isinstance(sign, (ast.Is, ast.IsNot)):
                    self.assertTrue(isinstance(value, ast.Constant) and value.value in (None, True, False), where)


if __name__ == "__main__":
    unittest.main()
