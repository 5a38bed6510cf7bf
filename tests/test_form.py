"""Some of the rules for the form of the package's files; not all of them can be seen here."""

import ast
import builtins
import pathlib
import re
import unittest

PACKAGE = pathlib.Path(__file__).resolve().parent.parent / "turnindex"
LIBRARY = {
    "heapq": {"heappush", "heappop", "heapify", "heapreplace", "heappushpop"},
    "math": {"gcd", "lcm", "isqrt", "comb", "perm", "factorial"},
    "itertools": {"product", "combinations", "permutations"},
}
BUILTINS = set(
    "len range enumerate zip min max sum abs sorted reversed int str bool bytes list tuple dict set frozenset"
    " isinstance ord repr any all divmod iter next map super Exception ValueError TypeError KeyError IndexError"
    " LookupError ZeroDivisionError ArithmeticError OverflowError RuntimeError NotImplementedError"
    " AttributeError StopIteration NotImplemented property staticmethod classmethod".split()
)
BARRED_NODES = (
    ast.Import, ast.Global, ast.AsyncFunctionDef, ast.AsyncFor, ast.AsyncWith, ast.Await, ast.Div, ast.MatMult,
    ast.TryStar,
)
KEYWORDS = {
    "sorted": {"key", "reverse"}, "min": {"key", "default"}, "max": {"key", "default"}, "sum": {"start"},
    "enumerate": {"start"}, "zip": {"strict"},
}
METHODS = set(
    "append clear copy count endswith extend find get index insert isalnum isalpha isdigit islower isspace isupper"
    " items join keys ljust lower lstrip partition pop remove replace reverse rfind rjust rpartition rsplit rstrip"
    " setdefault split splitlines startswith strip update upper values zfill bit_length add discard".split()
)
SPECIAL_METHODS = {"__init__", "__eq__", "__repr__", "__str__", "__len__"}
BARRED_NAMES = {
    "register", "mro", "elements", "open", "input", "law", "attrgetter", "breakpoint", "compile", "dir", "eval",
    "exec", "exit", "gc", "getattr", "setattr", "delattr", "hasattr", "help", "id", "locals", "globals", "vars",
    "type", "os", "sys",
}


def names_bound(node):
    """The names that a function, a class, a parameter or an assignment binds."""
    if isinstance(node, (ast.FunctionDef, ast.ClassDef)):
        return [node.name]
    if isinstance(node, ast.arg):
        return [node.arg]
    if isinstance(node, ast.Name) and isinstance(node.ctx, ast.Store):
        return [node.id]
    return []


class FormTest(unittest.TestCase):

    def setUp(self):
        self.files = sorted(PACKAGE.rglob("*.py"))
        self.texts = {file: file.read_bytes().decode("ascii") for file in self.files}
        self.trees = {file: ast.parse(text) for file, text in self.texts.items()}

    def nodes(self, *kinds):
        for file in self.files:
            for node in ast.walk(self.trees[file]):
                if isinstance(node, kinds or ast.AST):
                    yield f"{file.name}:{getattr(node, 'lineno', 0)}", node

    def test_the_folder_holds_nothing_else(self):
        others = [
            file for file in PACKAGE.rglob("*")
            if file.is_file() and file.suffix != ".py" and file.parent.name != "__pycache__"
        ]
        self.assertEqual(others, [])
        self.assertIn(PACKAGE / "__init__.py", self.files)
        for file in self.files:
            self.assertRegex(file.stem, "^([a-z][a-z0-9_]*|__init__|__main__)$")

    def test_characters_and_sizes(self):
        for file, text in self.texts.items():
            self.assertRegex(text, r"^[ -~\n]*$")
            lines = text.split("\n")
            self.assertLess(len(lines), 400, file)
            self.assertLessEqual(max(map(len, lines)), 120, file)

    def test_functions_are_short(self):
        for where, node in self.nodes(ast.FunctionDef):
            self.assertLessEqual(node.end_lineno - node.lineno + 1, 40, where)

    def test_module_level(self):
        for file, tree in self.trees.items():
            for node in tree.body:
                if isinstance(node, ast.Expr):
                    self.assertIs(node, tree.body[0], file)
                    self.assertIsInstance(node.value.value, str)
                else:
                    self.assertIsInstance(node, (ast.ImportFrom, ast.FunctionDef, ast.ClassDef, ast.Assign), file)

    def test_imports(self):
        defined = {
            f"turnindex.{file.stem}": {name for node in ast.walk(tree) for name in names_bound(node)}
            for file, tree in self.trees.items()
        }
        for where, node in self.nodes(ast.ImportFrom):
            self.assertEqual(node.level, 0, where)
            allowed = LIBRARY.get(node.module) or defined[node.module]
            for name in node.names:
                self.assertIsNone(name.asname, where)
                self.assertIn(name.name, allowed, where)

    def test_no_barred_statements_and_values(self):
        for where, node in self.nodes():
            self.assertNotIsInstance(node, BARRED_NODES, where)
            if isinstance(node, ast.Constant):
                self.assertNotIsInstance(node.value, (float, complex), where)
                if isinstance(node.value, str):
                    self.assertNotIn("%", node.value, where)
            if isinstance(node, ast.FunctionDef):
                for decorator in node.decorator_list:
                    self.assertRegex(ast.unparse(decorator), r"^(property|staticmethod|classmethod|\w+\.setter)$")

    def test_names(self):
        for where, node in self.nodes():
            if isinstance(node, ast.Name) and node.id in vars(builtins):
                self.assertIn(node.id, BUILTINS, where)
            for name in names_bound(node):
                self.assertNotIn(name, BARRED_NAMES, where)
                self.assertNotIn(name, vars(builtins), where)
                self.assertTrue(re.match("^(_?[A-Za-z][A-Za-z0-9_]*|_|__[a-z]+__)$", name), where)

    def test_no_local_name_hides_an_import_or_a_class(self):
        for file, tree in self.trees.items():
            top = [node for node in tree.body if isinstance(node, (ast.ImportFrom, ast.ClassDef))]
            taken = {node.name for node in top if isinstance(node, ast.ClassDef)}
            taken |= {name.name for node in top if isinstance(node, ast.ImportFrom) for name in node.names}
            for node in ast.walk(tree):
                if node not in top:
                    self.assertFalse(taken & set(names_bound(node)), f"{file}:{getattr(node, 'lineno', 0)}")

    def test_methods_that_are_called(self):
        own = {node.name for _, node in self.nodes(ast.FunctionDef)}
        for where, node in self.nodes(ast.Call):
            if isinstance(node.func, ast.Attribute):
                self.assertIn(node.func.attr, METHODS | own, where)
                self.assertEqual(node.keywords, [], where)
            elif node.func.id in vars(builtins):
                self.assertLessEqual({one.arg for one in node.keywords}, KEYWORDS.get(node.func.id, set()), where)

    def test_methods_that_are_defined(self):
        for where, node in self.nodes(ast.FunctionDef):
            if node.name.startswith("__"):
                self.assertIn(node.name, SPECIAL_METHODS, where)

    def test_no_generators(self):
        # beside a class with an __eq__ of its own, these are allowed in few places only
        for where, node in self.nodes():
            self.assertNotIsInstance(node, (ast.GeneratorExp, ast.Yield, ast.YieldFrom), where)

    def test_sets_are_used_on_the_spot(self):
        allowed = set()
        for _, node in self.nodes(ast.Call):
            if isinstance(node.func, ast.Name) and node.func.id in ("sorted", "len") and not node.keywords:
                allowed |= {id(one) for one in node.args}
        for where, node in self.nodes(ast.Set, ast.SetComp, ast.Call):
            if not isinstance(node, ast.Call) or isinstance(node.func, ast.Name) and node.func.id == "set":
                self.assertIn(id(node), allowed, where)

    def test_is_stands_beside_none_alone(self):
        for where, node in self.nodes(ast.Compare):
            for sign, other in zip(node.ops, node.comparators):
                if isinstance(sign, (ast.Is, ast.IsNot)):
                    self.assertIn(ast.unparse(other), ("None", "True", "False"), where)

    def test_no_two_files_import_from_each_other(self):
        imported = {
            f"turnindex.{file.stem}": {node.module for node in tree.body if isinstance(node, ast.ImportFrom)}
            for file, tree in self.trees.items()
        }
        left = dict(imported)
        while left:
            free = [module for module in left if not left[module] & set(left)]
            self.assertTrue(free, left)
            for module in free:
                del left[module]


if __name__ == "__main__":
    unittest.main()
