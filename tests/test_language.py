"""The files of the package keep to the plain part of Python that the project uses.

Only what a short look at the syntax can tell is checked here; the paper has more rules.
"""

import ast
import pathlib
import re
import unittest

PACKAGE = pathlib.Path(__file__).resolve().parent.parent / "smalltowns"

BUILTINS = set("""len range enumerate zip min max sum abs sorted reversed int str bool bytes list tuple dict set
    frozenset isinstance ord repr any all divmod iter next map Exception ValueError TypeError KeyError IndexError
    LookupError ZeroDivisionError ArithmeticError OverflowError RuntimeError NotImplementedError AttributeError
    StopIteration NotImplemented property staticmethod classmethod super""".split())

BARRED = (ast.Global, ast.AsyncFunctionDef, ast.Await, ast.AsyncFor, ast.AsyncWith, ast.Div, ast.MatMult)

WORDS = re.compile(r"\b(type|typing|typing_extensions|enum|Enum|IntEnum|StrEnum|Flag|IntFlag|Generic|Protocol|ABC"
                   r"|ABCMeta|namedtuple|NamedTuple|TypedDict|TYPE_CHECKING|abstractmethod)\b")

NAMES = set("""register mro elements open input law version_info with_traceback add_note attrgetter breakpoint builtins
    compile copyright credits delattr dir eval exec exit gc getattr globals hasattr help id importlib license locals
    methodcaller os quit setattr type vars sys""".split())

METHODS = set("""append clear copy count endswith extend find get index insert isalnum isalpha isdigit islower isspace
    isupper items join keys ljust lower lstrip partition pop remove replace reverse rfind rjust rpartition rsplit rstrip
    setdefault split splitlines startswith strip update upper values zfill bit_length add discard isascii""".split())

DOUBLE = re.compile("__(init|eq|repr|str|len|enter|exit|call|iter|lt|le|gt|ge|ne|r?add|r?sub|r?mul|r?floordiv|r?mod|pow"
                    "|r?and|r?or|r?xor|r?lshift|r?rshift|iadd|neg|pos|invert|abs|bool|contains|getitem|setitem)__")

AT_ONCE = {"range", "zip", "enumerate", "reversed", "map"}

LIBRARY = {
    "heapq": {"heappush", "heappop", "heapify", "heapreplace", "heappushpop"},
    "math": {"gcd", "lcm", "isqrt", "comb", "perm", "factorial"},
    "itertools": {"product", "combinations", "permutations"},
}


def builtin_names():
    """The names that Python itself gives a meaning."""
    return set(dir(__builtins__)) if not isinstance(__builtins__, dict) else set(__builtins__)


class Language(unittest.TestCase):
    def setUp(self):
        self.files = {path.name: path.read_text(encoding="utf-8") for path in sorted(PACKAGE.glob("*.py"))}
        self.trees = {name: ast.parse(text) for name, text in self.files.items()}

    def nodes(self, *kinds):
        """All parts of these kinds, each with the name of its file."""
        for name, tree in self.trees.items():
            for node in ast.walk(tree):
                if isinstance(node, kinds):
                    yield name, node

    def test_the_folder_holds_nothing_but_files_of_python(self):
        strange = [path.name for path in PACKAGE.rglob("*") if "__pycache__" not in path.parts and path.suffix != ".py"]
        self.assertEqual(strange, [])
        self.assertIn("__init__.py", self.files)

    def test_sizes_and_characters(self):
        for name, text in self.files.items():
            lines = text.split("\n")
            self.assertLessEqual(len(lines) - 1, 399, name)
            self.assertLessEqual(max(len(line) for line in lines), 120, name)
            self.assertEqual([c for c in text if c != "\n" and not " " <= c <= "~"], [], name)
        for name, node in self.nodes(ast.FunctionDef):
            self.assertLessEqual(node.end_lineno - node.lineno + 1, 40, f"{name} {node.name}")

    def test_imports_are_of_the_package_or_the_three_modules(self):
        for name, node in self.nodes(ast.Import):
            self.assertEqual(([own.name for own in node.names], name), (["sys"], "__main__.py"))
        for name, node in self.nodes(ast.ImportFrom):
            names = {own.name for own in node.names}
            self.assertEqual(node.level, 0, name)
            self.assertEqual([own.asname for own in node.names if own.asname], [], name)
            if node.module in LIBRARY:
                self.assertLessEqual(names, LIBRARY[node.module], name)
            elif node.module != "__future__":
                self.assertTrue(node.module.startswith("smalltowns."), f"{name} {node.module}")
                self.assertIn(node.module.split(".")[1] + ".py", self.files)

    def test_no_other_builtin_is_used_or_hidden(self):
        for name, node in self.nodes(ast.Name):
            if node.id in builtin_names():
                self.assertIn(node.id, BUILTINS, f"{name} {node.lineno}")
                self.assertIsInstance(node.ctx, ast.Load, f"{name} {node.lineno}")
        for name, node in self.nodes(ast.arg):
            self.assertNotIn(node.arg, builtin_names(), f"{name} {node.lineno}")

    def test_no_name_of_an_import_or_a_class_has_another_meaning(self):
        for name, tree in self.trees.items():
            outer = [own.name for node in tree.body if isinstance(node, ast.ImportFrom) for own in node.names]
            outer += [node.name for node in tree.body if isinstance(node, (ast.ClassDef, ast.FunctionDef))]
            self.assertEqual(len(outer), len(set(outer)), name)
            inner = {node.arg for node in ast.walk(tree) if isinstance(node, ast.arg)}
            inner |= {node.id for node in ast.walk(tree) if isinstance(node, ast.Name) and isinstance(node.ctx, ast.Store)}
            self.assertEqual(inner & set(outer), set(), name)
            self.assertEqual((inner | set(outer)) & NAMES, set(), name)

    def test_imports_do_not_go_in_a_circle(self):
        wanted = {f"smalltowns.{name[:-3]}": {node.module for node in tree.body if isinstance(node, ast.ImportFrom)}
                  for name, tree in self.trees.items()}
        while wanted:
            free = [name for name, needs in wanted.items() if not needs & set(wanted)]
            self.assertNotEqual(free, [], sorted(wanted))
            wanted = {name: needs for name, needs in wanted.items() if name not in free}

    def test_each_import_is_of_the_file_that_defines_the_name(self):
        for name, node in self.nodes(ast.ImportFrom):
            if node.module.startswith("smalltowns."):
                there = self.trees[node.module.split(".")[1] + ".py"].body
                defined = {own.name for own in there if isinstance(own, (ast.ClassDef, ast.FunctionDef))}
                defined |= {own.targets[0].id for own in there if isinstance(own, ast.Assign)}
                self.assertLessEqual({own.name for own in node.names}, defined, name)

    def test_modules_hold_nothing_but_definitions(self):
        for name, tree in self.trees.items():
            for node in tree.body[1:]:
                self.assertIsInstance(node, (ast.ImportFrom, ast.ClassDef, ast.FunctionDef, ast.Assign), name)

    def test_only_these_methods(self):
        own = {node.name for _, node in self.nodes(ast.FunctionDef)}
        for name, node in self.nodes(ast.Call):
            if isinstance(node.func, ast.Attribute):
                self.assertIn(node.func.attr, METHODS | own, f"{name} {node.lineno}")
        for name, node in self.nodes(ast.FunctionDef):
            if node.name.startswith("__"):
                self.assertTrue(DOUBLE.fullmatch(node.name), f"{name} {node.lineno}")

    def test_decorators_stand_over_methods_alone(self):
        for name, node in self.nodes(ast.FunctionDef, ast.ClassDef):
            told = [own.id for own in node.decorator_list]
            self.assertIn(told, ([], ["property"], ["staticmethod"]), f"{name} {node.lineno}")

    def test_lists_where_objects_can_be_equal(self):
        # No generator expression, as classes of the package have an __eq__.
        self.assertEqual([(name, node.lineno) for name, node in self.nodes(ast.GeneratorExp)], [])

    def test_what_is_gone_through_at_once_is_not_kept(self):
        for name, node in self.nodes(ast.Assign, ast.Return, ast.AugAssign):
            value = node.value
            if isinstance(value, ast.Call) and isinstance(value.func, ast.Name):
                self.assertNotIn(value.func.id, AT_ONCE, f"{name} {node.lineno}")

    def test_is_stands_beside_none_alone(self):
        for name, node in self.nodes(ast.Compare):
            for sign, right in zip(node.ops, node.comparators):
                if isinstance(sign, (ast.Is, ast.IsNot)):
                    self.assertIsInstance(right, ast.Constant, f"{name} {node.lineno}")

    def test_powers_have_literal_exponents(self):
        for name, node in self.nodes(ast.BinOp):
            if isinstance(node.op, ast.Pow):
                self.assertIsInstance(node.right, ast.Constant, f"{name} {node.lineno}")

    def test_no_barred_parts_of_python(self):
        self.assertEqual([(name, node.__class__.__name__) for name, node in self.nodes(*BARRED)], [])

    def test_no_floats_and_no_percent_sign_in_strings(self):
        for name, node in self.nodes(ast.Constant):
            self.assertNotIsInstance(node.value, (float, complex), f"{name} {node.lineno}")
            if isinstance(node.value, str):
                self.assertNotIn(chr(37), node.value, f"{name} {node.lineno}")

    def test_no_barred_words(self):
        for name, text in self.files.items():
            bare = re.sub(r'"""(.|\n)*?"""|#.*', "", text)
            self.assertEqual(WORDS.findall(bare), [], name)

    def test_errors_are_raised_on_the_spot(self):
        for name, node in self.nodes(ast.Raise):
            self.assertTrue(node.exc is None or isinstance(node.exc, ast.Call) and isinstance(node.exc.func, ast.Name),
                            f"{name} {node.lineno}")

    def test_no_set_is_kept(self):
        # A set is sorted or asked at once.
        for name, node in self.nodes(ast.Assign, ast.Return):
            value = node.value
            self.assertNotIsInstance(value, (ast.Set, ast.SetComp), f"{name} {node.lineno}")
            if isinstance(value, ast.Call) and isinstance(value.func, ast.Name):
                self.assertNotIn(value.func.id, ("set", "frozenset"), f"{name} {node.lineno}")

    def test_nothing_is_changed_by_a_sign_and_nothing_is_nested(self):
        # Where a class has += of its own, no operator may use it on anything.
        self.assertEqual([(name, node.lineno) for name, node in self.nodes(ast.AugAssign, ast.NamedExpr, ast.Lambda)], [])
        for name, node in self.nodes(ast.FunctionDef):
            inner = [own.name for own in ast.walk(node) if isinstance(own, (ast.FunctionDef, ast.ClassDef)) and own != node]
            self.assertEqual(inner, [], f"{name} {node.name}")

    def test_no_annotations(self):
        self.assertEqual([(name, node.lineno) for name, node in self.nodes(ast.AnnAssign)], [])
        for name, node in self.nodes(ast.FunctionDef):
            told = [own.annotation for own in node.args.args + node.args.kwonlyargs] + [node.returns]
            self.assertEqual([own for own in told if own], [], f"{name} {node.name}")

    def test_attributes_have_names_of_their_own(self):
        made, read, methods, properties = set(), set(), set(), set()
        for name, node in self.nodes(ast.Attribute):
            if isinstance(node.ctx, ast.Store):
                made.add(node.attr)
                self.assertIsInstance(node.value, ast.Name, f"{name} {node.lineno}")
            else:
                read.add(node.attr)
        for name, node in self.nodes(ast.ClassDef):
            for own in node.body:
                if isinstance(own, ast.FunctionDef):
                    told = [word.id for word in own.decorator_list]
                    (properties if told == ["property"] else methods).add(own.name)
        self.assertEqual((made & properties, made & methods, properties & methods), (set(), set(), set()))
        self.assertLessEqual(read, made | properties | methods | METHODS)

    def test_classes_that_tell_items_cannot_be_gone_through(self):
        for name, node in self.nodes(ast.ClassDef):
            methods = {own.name: own for own in node.body if isinstance(own, ast.FunctionDef)}
            if "__getitem__" in methods:
                self.assertIsInstance(methods["__iter__"].body[0], ast.Raise, f"{name} {node.name}")
            if "__len__" in methods:
                (told,) = methods["__len__"].body
                self.assertEqual((told.__class__, told.value.func.id), (ast.Return, "len"), f"{name} {node.name}")
            for base in node.bases:
                self.assertIn(base.id, ("LookupError", "ValueError"), f"{name} {node.name}")

    def test_only_own_errors_are_caught_and_each_by_a_name_of_its_own(self):
        own = {node.name for name, node in self.nodes(ast.ClassDef) if name == "errors.py"}
        for name, node in self.nodes(ast.ExceptHandler):
            caught = node.type.elts if isinstance(node.type, ast.Tuple) else [node.type]
            self.assertLessEqual({word.id for word in caught}, own, f"{name} {node.lineno}")
        for name, node in self.nodes(ast.FunctionDef):
            names = [inner.name for inner in ast.walk(node) if isinstance(inner, ast.ExceptHandler) and inner.name]
            stored = [inner.id for inner in ast.walk(node)
                      if isinstance(inner, ast.Name) and isinstance(inner.ctx, ast.Store)]
            self.assertEqual(len(names), len(set(names) - set(stored)), f"{name} {node.name}")

    def test_tables_of_a_module_are_only_read(self):
        for name, tree in self.trees.items():
            tables = {node.targets[0].id for node in tree.body if isinstance(node, ast.Assign)
                      and isinstance(node.value, (ast.Dict, ast.List))}
            for node in ast.walk(tree):
                if isinstance(node, ast.Call):
                    given = [own.id for own in node.args if isinstance(own, ast.Name)]
                    self.assertEqual(tables & set(given), set(), f"{name} {node.lineno}")
                    self.assertNotIsInstance(node.func, ast.Subscript, f"{name} {node.lineno}")

    def test_stars_of_calls_stand_before_names(self):
        for name, node in self.nodes(ast.Call):
            for own in node.args:
                if isinstance(own, ast.Starred):
                    self.assertIsInstance(own.value, ast.Name, f"{name} {node.lineno}")
            self.assertNotIn(None, [own.arg for own in node.keywords], f"{name} {node.lineno}")

    def test_no_strings_inside_the_braces(self):
        for name, node in self.nodes(ast.JoinedStr):
            inner = [own for part in node.values if isinstance(part, ast.FormattedValue) for own in ast.walk(part.value)]
            self.assertEqual([own for own in inner if isinstance(own, ast.Constant) and isinstance(own.value, str)], [],
                             f"{name} {node.lineno}")


if __name__ == "__main__":
    unittest.main()
