"""The files of the package keep to the plain part of Python that the project uses.

Only what a short look at the syntax can tell is checked here; the paper has more rules.
"""

import ast
import pathlib
import re
import unittest

PACKAGE = pathlib.Path(__file__).resolve().parent.parent / "smalltowns"

BUILTINS = set("""len range enumerate zip min max sum abs sorted reversed int str bool bytes list tuple dict set
    frozenset isinstance ord repr any all divmod iter next map Exception ValueError TypeError KeyError IndexError
    LookupError ZeroDivisionError ArithmeticError OverflowError RuntimeError NotImplementedError AttributeError
    StopIteration NotImplemented property staticmethod classmethod super""".split())

BARRED = (ast.Global, ast.AsyncFunctionDef, ast.Await, ast.AsyncFor, ast.AsyncWith, ast.Div, ast.MatMult)

WORDS = re.compile(r"\b(type|typing|typing_extensions|enum|Enum|IntEnum|StrEnum|Flag|IntFlag|Generic|Protocol|ABC"
                   r"|ABCMeta|namedtuple|NamedTuple|TypedDict|TYPE_CHECKING|abstractmethod)\b")

LIBRARY = {
    "heapq": {"heappush", "heappop", "heapify", "heapreplace", "heappushpop"},
    "math": {"gcd", "lcm", "isqrt", "comb", "perm", "factorial"},
    "itertools": {"product", "combinations", "permutations"},
}


def builtin_names():
    """The names that Python itself gives a meaning."""
    return set(dir(__builtins__)) if not isinstance(__builtins__, dict) else set(__builtins__)


class Language(unittest.TestCase):
    def setUp(self):
        self.files = {path.name: path.read_text(encoding="utf-8") for path in sorted(PACKAGE.glob("*.py"))}
        self.trees = {name: ast.parse(text) for name, text in self.files.items()}

    def nodes(self, *kinds):
        """All parts of these kinds, each with the name of its file."""
        for name, tree in self.trees.items():
            for node in ast.walk(tree):
                if isinstance(node, kinds):
                    yield name, node

    def test_the_folder_holds_nothing_but_files_of_python(self):
        strange = [path.name for path in PACKAGE.rglob("*") if "__pycache__" not in path.parts and path.suffix != ".py"]
        self.assertEqual(strange, [])
        self.assertIn("__init__.py", self.files)

    def test_sizes_and_characters(self):
        for name, text in self.files.items():
            lines = text.split("\n")
            self.assertLessEqual(len(lines) - 1, 399, name)
            self.assertLessEqual(max(len(line) for line in lines), 120, name)
            self.assertEqual([c for c in text if c != "\n" and not " " <= c <= "~"], [], name)
        for name, node in self.nodes(ast.FunctionDef):
            self.assertLessEqual(node.end_lineno - node.lineno + 1, 40, f"{name} {node.name}")

    def test_imports_are_of_the_package_or_the_three_modules(self):
        for name, node in self.nodes(ast.Import):
            self.assertEqual(([own.name for own in node.names], name), (["sys"], "__main__.py"))
        for name, node in self.nodes(ast.ImportFrom):
            names = {own.name for own in node.names}
            self.assertEqual(node.level, 0, name)
            self.assertEqual([own.asname for own in node.names if own.asname], [], name)
            if node.module in LIBRARY:
                self.assertLessEqual(names, LIBRARY[node.module], name)
            elif node.module != "__future__":
                self.assertTrue(node.module.startswith("smalltowns."), f"{name} {node.module}")
                self.assertIn(node.module.split(".")[1] + ".py", self.files)

    def test_no_other_builtin_is_used_or_hidden(self):
        for name, node in self.nodes(ast.Name):
            if node.id in builtin_names():
                self.assertIn(node.id, BUILTINS, f"{name} {node.lineno}")
                self.assertIsInstance(node.ctx, ast.Load, f"{name} {node.lineno}")
        for name, node in self.nodes(ast.arg):
            self.assertNotIn(node.arg, builtin_names(), f"{name} {node.lineno}")

    def test_no_barred_parts_of_python(self):
        self.assertEqual([(name, node.__class__.__name__) for name, node in self.nodes(*BARRED)], [])

    def test_no_floats_and_no_percent_sign_in_strings(self):
        for name, node in self.nodes(ast.Constant):
            self.assertNotIsInstance(node.value, (float, complex), f"{name} {node.lineno}")
            if isinstance(node.value, str):
                self.assertNotIn(chr(37), node.value, f"{name} {node.lineno}")

    def test_no_barred_words(self):
        for name, text in self.files.items():
            bare = re.sub(r'"""(.|\n)*?"""|#.*', "", text)
            self.assertEqual(WORDS.findall(bare), [], name)

    def test_errors_are_raised_on_the_spot(self):
        for name, node in self.nodes(ast.Raise):
            self.assertTrue(node.exc is None or isinstance(node.exc, ast.Call) and isinstance(node.exc.func, ast.Name),
                            f"{name} {node.lineno}")


if __name__ == "__main__":
    unittest.main()
