"""The rules of ../shared/LANGUAGE.md that a test can see; the numbers are those of the rules."""

import ast
import builtins
import pathlib
import re
import unittest

FOLDER = pathlib.Path(__file__).resolve().parent.parent / "freeworldrules"

ALLOWED_BUILTINS = set("""
    len range enumerate zip min max sum abs sorted reversed int str bool bytes list tuple dict set frozenset isinstance
    ord repr any all divmod pow getattr hasattr setattr iter next map Exception ValueError TypeError KeyError IndexError
    LookupError ZeroDivisionError ArithmeticError OverflowError RuntimeError NotImplementedError AttributeError
    StopIteration NotImplemented""".split())

ALLOWED_METHODS = set("""
    append clear copy count endswith extend find get index insert isalnum isalpha isdigit islower isspace isupper items
    join keys ljust lower lstrip partition pop remove replace reverse rfind rjust rpartition rsplit rstrip setdefault
    split splitlines startswith strip update upper values zfill bit_length add discard isascii""".split())

ALLOWED_SPECIAL = set("__init__ __eq__ __repr__ __str__ __len__ __call__ __iter__ __contains__".split())

ALLOWED_LIBRARY = {"heapq", "math", "itertools", "collections"}

NOT_IN_CODE = re.compile(r"\b(type|typing|enum|Enum|Generic|Protocol|ABC|namedtuple|NamedTuple|register|mro|elements"
                         r"|open|input|law|eval|exec|global|async|dir|id|vars|os|sys|help|compile|chr|print)\b")

NOT_USED = (ast.GeneratorExp, ast.Global, ast.AsyncFunctionDef, ast.Await, ast.Div)

FILES = {path.name: path.read_bytes().decode("utf-8") for path in sorted(FOLDER.glob("*.py"))}

TREES = {name: ast.parse(text) for name, text in FILES.items()}


def nodes(*kinds):
    return [(name, node) for name, tree in TREES.items() for node in ast.walk(tree) if isinstance(node, kinds)]


def without_docstrings(tree):
    """The strings of a file that are no docstrings."""
    told = [node.body[0].value for node in ast.walk(tree)
            if isinstance(node, (ast.Module, ast.ClassDef, ast.FunctionDef))
            and isinstance(node.body[0], ast.Expr) and isinstance(node.body[0].value, ast.Constant)]
    return [node.value for node in ast.walk(tree)
            if isinstance(node, ast.Constant) and isinstance(node.value, str) and node not in told]


class Files(unittest.TestCase):
    def test_l1_the_folder_has_plain_files_alone(self):
        names = [path.name for path in FOLDER.iterdir() if path.name != "__pycache__"]
        self.assertEqual(sorted(names), list(FILES))
        for name in names:
            self.assertRegex(name, r"^[a-z0-9_]+\.py$")
        self.assertIn("__init__.py", names)

    def test_l10_sizes(self):
        for name, text in FILES.items():
            lines = text.split("\n")
            self.assertLessEqual(len(lines), 399, name)
            self.assertLessEqual(max(len(line) for line in lines), 120, name)
        for name, node in nodes(ast.FunctionDef):
            self.assertLessEqual(node.end_lineno - node.lineno + 1, 40, (name, node.name))

    def test_l14_characters(self):
        for name, text in FILES.items():
            self.assertRegex(text, r"\A[ -~\n]*\Z", name)

    def test_l2_l16_imports(self):
        self.assertEqual(nodes(ast.Import), [])
        for name, node in nodes(ast.ImportFrom):
            self.assertEqual(node.level, 0, name)
            if node.module not in ALLOWED_LIBRARY:
                folder, file = node.module.split(".")
                self.assertEqual(folder, "freeworldrules")
                defined = [part.name for part in TREES[file + ".py"].body
                           if isinstance(part, (ast.FunctionDef, ast.ClassDef))]
                defined += [part.targets[0].id for part in TREES[file + ".py"].body if isinstance(part, ast.Assign)]
                for alias in node.names:
                    self.assertIn(alias.name, defined)
                    self.assertIsNone(alias.asname)

    def test_l16_no_files_import_from_each_other(self):
        ways = {name: [node.module.split(".")[1] + ".py" for node in tree.body
                       if isinstance(node, ast.ImportFrom) and node.module not in ALLOWED_LIBRARY]
                for name, tree in TREES.items()}
        ended = []
        while len(ended) < len(ways):
            more = [name for name in ways if name not in ended and all(other in ended for other in ways[name])]
            self.assertNotEqual(more, [])
            ended += more


class Code(unittest.TestCase):
    def test_l3_module_level(self):
        for name, tree in TREES.items():
            for node in tree.body:
                self.assertIsInstance(node, (ast.Expr, ast.ImportFrom, ast.FunctionDef, ast.ClassDef, ast.Assign), name)

    def test_l4_l5_decorators_and_special_methods(self):
        for name, node in nodes(ast.ClassDef):
            self.assertEqual(node.decorator_list, [])
        for name, node in nodes(ast.FunctionDef):
            self.assertLessEqual({each.id for each in node.decorator_list}, {"staticmethod"})
            if node.name.startswith("__"):
                self.assertIn(node.name, ALLOWED_SPECIAL)

    def test_l6_l7_nothing_that_is_not_used(self):
        self.assertEqual(nodes(*NOT_USED), [])
        for name, node in nodes(ast.Constant):
            self.assertNotIsInstance(node.value, (float, complex), name)

    def test_l8_builtins_and_l15_names(self):
        for name, node in nodes(ast.Name):
            if hasattr(builtins, node.id) and node.id != "staticmethod":
                self.assertIsInstance(node.ctx, ast.Load, (name, node.id))
                self.assertIn(node.id, ALLOWED_BUILTINS, name)
        for name, node in nodes(ast.arg):
            self.assertFalse(hasattr(builtins, node.arg), (name, node.arg))

    def test_l15_locals_have_no_name_of_an_import_or_a_class(self):
        for name, tree in TREES.items():
            taken = [alias.name for node in tree.body if isinstance(node, ast.ImportFrom) for alias in node.names]
            taken += [node.name for node in tree.body if isinstance(node, ast.ClassDef)]
            for node in ast.walk(tree):
                if isinstance(node, ast.arg) or isinstance(node, ast.Name) and isinstance(node.ctx, ast.Store):
                    self.assertNotIn(node.arg if isinstance(node, ast.arg) else node.id, taken, name)

    def test_l17_words(self):
        for name, tree in TREES.items():
            names = [getattr(node, key) for node in ast.walk(tree) for key in ("id", "arg", "attr", "name")
                     if isinstance(getattr(node, key, None), str)]
            for word in names:
                self.assertNotRegex(word, NOT_IN_CODE, name)
            for text in without_docstrings(tree):
                self.assertNotRegex(text, r"\b(typing|enum|Enum|Generic|Protocol|ABC)\b|dataclass|overload", name)

    def test_l2_nothing_that_an_iterated_class_with_len_bars(self):
        for name, node in nodes(ast.ImportFrom):
            self.assertNotIn("itertools", node.module, name)

    def test_l18_no_name_is_a_method_and_an_attribute(self):
        methods = {part.name for _, node in nodes(ast.ClassDef) for part in node.body if isinstance(part, ast.FunctionDef)}
        stored = {node.attr for _, node in nodes(ast.Attribute) if isinstance(node.ctx, ast.Store)}
        self.assertEqual(methods & stored, set())
        read = {node.attr for _, node in nodes(ast.Attribute) if isinstance(node.ctx, ast.Load)}
        self.assertEqual(read - stored - methods - ALLOWED_METHODS, set())

    def test_l23_iterated_at_once(self):
        at_once = []
        for _, node in nodes(ast.For, ast.comprehension):
            at_once.append(node.iter)
        for _, node in nodes(ast.Call):
            if isinstance(node.func, ast.Name) and node.func.id in ("list", "tuple", "dict", "sorted", "sum", "reversed"):
                at_once += node.args[:1]
        for name, node in nodes(ast.Call):
            called = node.func.id if isinstance(node.func, ast.Name) else node.func.attr
            if called in ("zip", "enumerate", "range", "reversed", "items", "values", "keys"):
                self.assertIn(node, at_once, (name, node.lineno))
            if called == "reversed":
                self.assertNotIn(getattr(getattr(node.args[0], "func", None), "id", None), ("zip", "enumerate"), name)

    def test_l24_no_sets(self):
        self.assertEqual(nodes(ast.Set, ast.SetComp), [])
        for name, node in nodes(ast.Name):
            self.assertNotIn(node.id, ("set", "frozenset"), name)

    def test_l25_methods(self):
        own = {node.name for _, node in nodes(ast.FunctionDef)}
        for name, node in nodes(ast.Call):
            if isinstance(node.func, ast.Attribute):
                self.assertIn(node.func.attr, ALLOWED_METHODS | own, name)

    def test_l27_strings(self):
        for name, node in nodes(ast.Constant):
            if isinstance(node.value, str):
                self.assertNotIn("%", node.value, name)
                self.assertNotRegex(node.value, r"\._+\Z", name)


if __name__ == "__main__":
    unittest.main()
