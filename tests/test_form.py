"""The form of the package's files: those rules of the language that are easily seen."""

import ast
import builtins
import re
import unittest
from pathlib import Path

PACKAGE = Path(__file__).resolve().parent.parent / "crookroad"
UNUSED = (
    "type typing typing_extensions enum Enum IntEnum StrEnum Flag IntFlag Generic Protocol ABC "
    "ABCMeta namedtuple NamedTuple TypedDict TYPE_CHECKING abstractmethod"
).split()
ALLOWED = (
    "len range enumerate zip min max sum abs sorted reversed int str bool bytes list tuple dict set "
    "isinstance ord repr any all divmod ValueError KeyError IndexError ZeroDivisionError True False None"
).split()


METHODS = (
    "append clear copy count endswith extend find get index insert isalnum isalpha isdigit islower isspace isupper "
    "items join keys ljust lower lstrip partition pop remove replace reverse rfind rjust rpartition rsplit rstrip "
    "setdefault split splitlines startswith strip update upper values zfill bit_length add discard sort"
).split()


def sources():
    return sorted(PACKAGE.rglob("*.py"))


def readings():
    for path in sources():
        text = path.read_text(encoding="utf-8")
        yield path.name, text, ast.parse(text)


def names_given(tree):
    """Names that defs take or give themselves."""
    for node in ast.walk(tree):
        if isinstance(node, ast.arg):
            yield node.arg
        if isinstance(node, ast.Name) and not isinstance(node.ctx, ast.Load):
            yield node.id


def names_drawn(tree):
    """Names that a file's imports bring, and those of its classes."""
    for node in ast.walk(tree):
        if isinstance(node, ast.ImportFrom):
            yield from [drawn.name for drawn in node.names]
        if isinstance(node, ast.ClassDef):
            yield node.name


class Form(unittest.TestCase):

    def test_files_are_found(self):
        names = [path.name for path in sources()]
        for name in ("__init__", "errors", "parts", "road", "cover", "walk", "rings", "order", "build", "laid", "house",
                     "notes"):
            self.assertIn(name + ".py", names)

    def test_nothing_else_lies_in_the_package(self):
        for path in PACKAGE.iterdir():
            if path.name != "__pycache__":
                self.assertRegex(path.name, r"\A[a-z0-9_]+\.py\Z")

    def test_signs_and_sizes(self):
        for name, text, tree in readings():
            self.assertRegex(text, r"\A[\n -~]*\Z", name)
            rows = text.split("\n")
            self.assertLessEqual(len(rows), 400, name)
            self.assertLessEqual(max(len(row) for row in rows), 120, name)
            for node in ast.walk(tree):
                if isinstance(node, ast.FunctionDef):
                    self.assertLessEqual(node.end_lineno - node.lineno + 1, 40, (name, node.name))

    def test_unused_words(self):
        for name, text, tree in readings():
            words = re.findall(r"\w+", text)
            for word in UNUSED:
                self.assertNotIn(word, words, name)

    def test_imports_are_the_packages_own(self):
        for name, text, tree in readings():
            for node in ast.walk(tree):
                self.assertNotIsInstance(node, ast.Import, name)
                if isinstance(node, ast.ImportFrom):
                    self.assertEqual(node.level, 0, name)
                    self.assertTrue(node.module.startswith("crookroad."), name)
                    self.assertNotIn("*", [drawn.name for drawn in node.names], name)

    def test_pythons_own_names(self):
        for name, text, tree in readings():
            for node in ast.walk(tree):
                if isinstance(node, ast.Name) and isinstance(node.ctx, ast.Load) and hasattr(builtins, node.id):
                    self.assertIn(node.id, ALLOWED, name)
            for given in names_given(tree):
                self.assertRegex(given, r"\A[A-Za-z]\w*\Z", name)
                self.assertFalse(hasattr(builtins, given), (name, given))

    def test_no_name_hides_an_import(self):
        for name, text, tree in readings():
            drawn = list(names_drawn(tree))
            self.assertEqual(len(drawn), len(set(drawn)), name)
            for given in names_given(tree):
                self.assertNotIn(given, drawn, name)

    def test_each_import_is_used_and_defined_where_it_is_drawn_from(self):
        trees = {name: tree for name, text, tree in readings()}
        for name, tree in trees.items():
            used = [node.id for node in ast.walk(tree) if isinstance(node, ast.Name)]
            for node in ast.walk(tree):
                if isinstance(node, ast.ImportFrom):
                    source = trees[node.module.split(".")[1] + ".py"]
                    bound = [part.name for part in source.body if isinstance(part, (ast.FunctionDef, ast.ClassDef))]
                    bound += [part.targets[0].id for part in source.body if isinstance(part, ast.Assign)]
                    for drawn in node.names:
                        self.assertIn(drawn.name, bound, name)
                        self.assertIn(drawn.name, used, name)

    def test_powers_have_written_exponents(self):
        for name, text, tree in readings():
            for node in ast.walk(tree):
                if isinstance(node, ast.BinOp) and isinstance(node.op, ast.Pow):
                    self.assertIsInstance(node.right, ast.Constant, name)
                    self.assertIn(node.right.value, range(65), name)

    def test_methods_and_values(self):
        methods, given = set(), set()
        for name, text, tree in readings():
            for node in ast.walk(tree):
                if isinstance(node, ast.ClassDef):
                    methods |= {part.name for part in node.body if isinstance(part, ast.FunctionDef)}
                if isinstance(node, ast.Attribute) and isinstance(node.ctx, ast.Store):
                    given.add(node.attr)
        self.assertEqual(methods & given, set())
        for value in given:
            self.assertFalse([kind for kind in (str, int, list, dict, set, bytes) if hasattr(kind, value)], value)
        for name, text, tree in readings():
            called = [node.func for node in ast.walk(tree) if isinstance(node, ast.Call)]
            for node in ast.walk(tree):
                if isinstance(node, ast.Attribute):
                    allowed = METHODS + list(methods) if node in called else given
                    self.assertIn(node.attr, allowed, name)

    def test_no_two_files_draw_from_one_another(self):
        drawn = {}
        for name, text, tree in readings():
            drawn[name] = {node.module.split(".")[1] + ".py" for node in ast.walk(tree) if isinstance(node, ast.ImportFrom)}
        while drawn:
            free = [name for name, others in drawn.items() if not others & set(drawn)]
            self.assertNotEqual(free, [], drawn)
            drawn = {name: others for name, others in drawn.items() if name not in free}

    def test_errors_are_made_of_texts_and_taken_by_name(self):
        for name, text, tree in readings():
            for node in ast.walk(tree):
                if isinstance(node, ast.Raise):
                    self.assertEqual([type(part) for part in node.exc.args], [ast.Constant], name)
                    self.assertIsInstance(node.exc.args[0].value, str, name)
                if isinstance(node, ast.ExceptHandler):
                    self.assertIsInstance(node.type, ast.Name, name)

    def test_whole_numbers_and_plain_statements(self):
        banned = (ast.Div, ast.With, ast.Global, ast.Nonlocal, ast.Yield, ast.YieldFrom, ast.Match,
                  ast.NamedExpr, ast.GeneratorExp, ast.AsyncFunctionDef, ast.Starred)
        for name, text, tree in readings():
            for node in ast.walk(tree):
                if not (isinstance(node, ast.Starred) and isinstance(node.ctx, ast.Store)):
                    self.assertNotIsInstance(node, banned, name)
                if isinstance(node, ast.Constant):
                    self.assertNotIsInstance(node.value, (float, complex), name)
                    self.assertFalse(isinstance(node.value, str) and "%" in node.value, name)


if __name__ == "__main__":
    unittest.main()
