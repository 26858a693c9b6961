"""The rules of the language that can be seen without running the program."""

import ast
import builtins
import re
import unittest
from pathlib import Path

PACKAGE = Path(__file__).resolve().parent.parent / "fieldrides"
FILES = sorted(PACKAGE.rglob("*.py"))
ALLOWED_BUILTINS = set(
    "len range enumerate zip min max sum abs sorted reversed int str bool bytes list tuple dict set frozenset"
    " isinstance ord repr any all divmod pow getattr hasattr setattr"
    " iter next map super property ValueError KeyError".split()
)
DUNDERS = set(
    "__init__ __eq__ __repr__ __str__ __len__ __call__ __iter__ __bool__ __or__ __and__ __lt__ __contains__".split()
)
BANNED_WORDS = set(
    "type typing typing_extensions enum Enum IntEnum StrEnum Flag IntFlag Generic Protocol ABC ABCMeta namedtuple"
    " NamedTuple TypedDict TYPE_CHECKING abstractmethod register mro elements open input law _record".split()
)
LIBRARY = {"math": {"comb", "factorial"}}
STATEMENTS_AT_THE_TOP = (ast.ImportFrom, ast.FunctionDef, ast.ClassDef, ast.Assign)
NEVER = (
    ast.GeneratorExp, ast.Global, ast.AsyncFunctionDef, ast.AsyncFor, ast.AsyncWith, ast.Await, ast.Div, ast.Import,
)


def parsed(path):
    return ast.parse(path.read_text(encoding="utf-8"))


def defined_names(path):
    """The functions, classes and names with a plain value that a file defines at its top."""
    for node in parsed(path).body:
        if isinstance(node, (ast.FunctionDef, ast.ClassDef)):
            yield node.name
        if isinstance(node, ast.Assign):
            yield node.targets[0].id


def bound_names(tree):
    """Every name that is assigned or is a parameter, with its line."""
    for node in ast.walk(tree):
        if isinstance(node, ast.Name) and isinstance(node.ctx, ast.Store):
            yield node.id, node.lineno
        if isinstance(node, ast.arg):
            yield node.arg, node.lineno


class LanguageTest(unittest.TestCase):
    def each(self):
        for path in FILES:
            yield path, parsed(path)

    def test_the_package_holds_nothing_but_python_files(self):
        others = [path for path in PACKAGE.rglob("*") if path.suffix != ".py" and "__pycache__" not in path.parts]
        self.assertEqual(others, [])
        self.assertGreater(len(FILES), 5)

    def test_sizes_and_characters(self):
        for path, tree in self.each():
            text = path.read_text(encoding="utf-8")
            lines = text.split("\n")
            self.assertLessEqual(len(lines), 399)
            self.assertLessEqual(max(map(len, lines)), 120)
            self.assertIsNone(re.search(r"[^ -~\n]", text))
            for node in ast.walk(tree):
                if isinstance(node, ast.FunctionDef):
                    self.assertLessEqual(node.end_lineno - node.lineno + 1, 40, node.name)

    def test_imports_name_the_file_that_defines_the_name(self):
        imports = {}
        for path, tree in self.each():
            imports[path.stem] = set()
            for node in ast.walk(tree):
                if isinstance(node, ast.ImportFrom) and node.module in LIBRARY:
                    for alias in node.names:
                        self.assertIsNone(alias.asname)
                        self.assertIn(alias.name, LIBRARY[node.module])
                elif isinstance(node, ast.ImportFrom):
                    package, _, module = node.module.partition(".")
                    self.assertEqual((package, node.level), ("fieldrides", 0))
                    imports[path.stem].add(module)
                    defined = list(defined_names(PACKAGE / f"{module}.py"))
                    for alias in node.names:
                        self.assertIsNone(alias.asname)
                        self.assertIn(alias.name, defined)
        while imports:
            free = [name for name in imports if not imports[name] & set(imports)]
            self.assertTrue(free, f"files that import each other: {sorted(imports)}")
            for name in free:
                del imports[name]

    def test_what_stands_in_a_file(self):
        for _, tree in self.each():
            for node in tree.body[1:]:
                self.assertIsInstance(node, STATEMENTS_AT_THE_TOP)
            for node in ast.walk(tree):
                self.assertNotIsInstance(node, NEVER, ast.dump(node))
                if isinstance(node, ast.Compare) and isinstance(node.ops[0], (ast.Is, ast.IsNot)):
                    self.assertIsInstance(node.comparators[0], ast.Constant)
                if isinstance(node, (ast.FunctionDef, ast.ClassDef)):
                    self.assertLessEqual({getattr(name, "id", None) for name in node.decorator_list}, {"property"})
                if isinstance(node, ast.Constant) and isinstance(node.value, str):
                    self.assertNotIn("%", node.value)

    def test_names(self):
        for path, tree in self.each():
            taken = {alias.name for node in tree.body if isinstance(node, ast.ImportFrom) for alias in node.names}
            taken |= {node.name for node in tree.body if isinstance(node, (ast.ClassDef, ast.FunctionDef))}
            for name, line in bound_names(tree):
                self.assertFalse(hasattr(builtins, name), f"{path.name}:{line}: {name}")
                self.assertNotIn(name, taken, f"{path.name}:{line}")
                self.assertRegex(name, r"^([A-Za-z][A-Za-z0-9_]*|_)$")
            for node in ast.walk(tree):
                if isinstance(node, ast.Name) and isinstance(node.ctx, ast.Load):
                    self.assertNotEqual(node.id, "_")
                    self.assertTrue(not hasattr(builtins, node.id) or node.id in ALLOWED_BUILTINS, node.id)
                if isinstance(node, ast.FunctionDef) and node.name.startswith("_"):
                    self.assertIn(node.name, DUNDERS)

    def test_words_that_do_not_occur(self):
        for path, tree in self.each():
            for node in ast.walk(tree):
                for value in vars(node).values():
                    if isinstance(value, str) and not re.search(r"\s", value):
                        self.assertNotIn(value, BANNED_WORDS, path.name)


if __name__ == "__main__":
    unittest.main()
