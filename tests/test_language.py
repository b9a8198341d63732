"""Those rules of ../shared/LANGUAGE.md that can be seen in a file by itself."""

import ast
import builtins
import pathlib
import unittest

from paintposts import errors

PACKAGE = pathlib.Path(__file__).resolve().parent.parent / "paintposts"

BUILTINS = set("""
    len range enumerate zip min max sum abs sorted reversed int str bool list tuple dict set isinstance ord repr any all
    divmod iter next map super property staticmethod classmethod NotImplemented Exception ValueError TypeError KeyError
    IndexError LookupError ZeroDivisionError OverflowError RuntimeError
""".split())

LIBRARY = {
    "heapq": {"heappush", "heappop", "heapify", "heapreplace", "heappushpop"},
    "math": {"gcd", "lcm", "isqrt", "comb", "perm", "factorial"},
    "itertools": {"product", "combinations", "permutations", "chain", "accumulate", "pairwise", "islice", "zip_longest"},
    "collections": {"defaultdict"},
}

# L2, L6, L7, L21: statements and signs that the subset does not have, or does not prefer.
BARRED = (
    ast.Global, ast.AsyncFunctionDef, ast.AsyncFor, ast.AsyncWith, ast.Await, ast.AnnAssign, ast.Import, ast.Div,
    ast.MatMult, ast.TryStar,
)

BARRED_WORDS = {
    "register", "mro", "elements", "open", "input", "law", "version_info", "with_traceback", "add_note", "compile", "dir",
    "eval", "exec", "exit", "globals", "help", "id", "locals", "os", "quit", "type", "vars", "hash", "format", "print",
}


def sources():
    return sorted(PACKAGE.rglob("*.py"))


def nodes():
    for path in sources():
        for node in ast.walk(ast.parse(path.read_text())):
            yield f"{path.name}:{getattr(node, 'lineno', 0)}", node


class LanguageTest(unittest.TestCase):
    def test_the_folder_holds_python_files_only(self):
        found = [path for path in PACKAGE.rglob("*") if "__pycache__" not in path.parts]
        self.assertEqual(sorted(found), sources())
        self.assertIn(PACKAGE / "__init__.py", sources())

    def test_sizes_and_characters(self):
        for path in sources():
            text = path.read_bytes().decode("ascii")
            self.assertLessEqual(len(text.splitlines()), 399, path)
            for line in text.splitlines():
                self.assertLessEqual(len(line), 120, (path, line))
            self.assertTrue(all(" " <= letter <= "~" or letter == "\n" for letter in text), path)

    def test_functions_are_short(self):
        for place, node in nodes():
            if isinstance(node, ast.FunctionDef):
                self.assertLessEqual(node.end_lineno - node.lineno + 1, 40, place)

    def test_imports(self):
        for place, node in nodes():
            if isinstance(node, ast.ImportFrom):
                self.assertEqual(node.level, 0, place)
                names = {alias.name for alias in node.names}
                if not node.module.startswith("paintposts."):
                    self.assertLessEqual(names, LIBRARY.get(node.module, set()), place)
                self.assertNotIn("*", names, place)

    def test_no_barred_statements_and_signs(self):
        for place, node in nodes():
            self.assertNotIsInstance(node, BARRED, place)
            if isinstance(node, ast.BinOp) and isinstance(node.op, ast.Pow):
                self.assertIsInstance(node.right, ast.Constant, place)
                self.assertLessEqual(node.right.value, 64, place)

    def test_literals(self):
        for place, node in nodes():
            if isinstance(node, ast.Constant):
                self.assertNotIsInstance(node.value, (float, complex), place)
                if isinstance(node.value, str):
                    self.assertNotIn("%", node.value, place)

    def test_names(self):
        builtin_names = set(dir(builtins))
        for place, node in nodes():
            if isinstance(node, ast.Name):
                self.assertNotIn(node.id, BARRED_WORDS, place)
                if isinstance(node.ctx, ast.Load):
                    self.assertTrue(node.id in BUILTINS or node.id not in builtin_names, (place, node.id))
                else:
                    self.assertNotIn(node.id, builtin_names, place)
            if isinstance(node, ast.arg):
                self.assertNotIn(node.arg, builtin_names | BARRED_WORDS, place)

    def test_decorators(self):
        for place, node in nodes():
            for decorator in getattr(node, "decorator_list", []):
                self.assertIsInstance(node, ast.FunctionDef, place)
                if isinstance(decorator, ast.Attribute):
                    self.assertEqual(decorator.attr, "setter", place)
                else:
                    self.assertIn(decorator.id, ("property", "staticmethod", "classmethod"), place)

    def test_class_values_are_literals(self):
        for place, node in nodes():
            if isinstance(node, ast.ClassDef):
                for row in node.body:
                    self.assertIsInstance(row, (ast.FunctionDef, ast.Assign, ast.Expr, ast.Pass), place)
                    if isinstance(row, ast.Assign):
                        ast.literal_eval(row.value)

    def test_generators_and_sorts(self):
        for place, node in nodes():
            # A class of the package has __eq__, so that these take lists (L7), and no list is sorted in place (L25).
            if isinstance(node, ast.Call) and isinstance(node.func, ast.Name):
                if node.func.id in ("any", "all", "min", "max", "sum", "sorted"):
                    for value in node.args:
                        self.assertNotIsInstance(value, ast.GeneratorExp, place)
            if isinstance(node, ast.Attribute):
                self.assertNotEqual(node.attr, "sort", place)

    def test_reversed_takes_plain_values(self):
        # L5: a class of the package has __getitem__.
        for place, node in nodes():
            if isinstance(node, ast.Call) and isinstance(node.func, ast.Name) and node.func.id == "reversed":
                value = node.args[0]
                is_call = isinstance(value, ast.Call) and getattr(value.func, "id", None) in ("list", "tuple", "sorted", "range")
                self.assertTrue(is_call or isinstance(value, (ast.List, ast.Tuple)), place)

    def test_finally_only_puts_things_back(self):
        # L6: assignments of names and attributes alone.
        for place, node in nodes():
            for row in getattr(node, "finalbody", []):
                self.assertIsInstance(row, ast.Assign, place)
                for inner in ast.walk(row):
                    self.assertIsInstance(inner, (ast.Assign, ast.Tuple, ast.Name, ast.Attribute, ast.expr_context), place)

    def test_handlers_name_own_errors(self):
        # L19: none of Python's own errors is caught here.
        own = {path for path in dir(errors) if not path.startswith("_")}
        for place, node in nodes():
            if isinstance(node, ast.ExceptHandler):
                named = node.type.elts if isinstance(node.type, ast.Tuple) else [node.type]
                self.assertLessEqual({name.id for name in named}, own, place)

    def test_super_is_asked_for_a_method_at_once(self):
        # L5: super() stands only as super().told(..), without arguments of its own.
        supers, asked = 0, 0
        for place, node in nodes():
            if isinstance(node, ast.Call) and getattr(node.func, "id", None) == "super":
                self.assertEqual(node.args + node.keywords, [], place)
                supers += 1
            if isinstance(node, ast.Call) and isinstance(node.func, ast.Attribute) and isinstance(node.func.value, ast.Call):
                asked += getattr(node.func.value.func, "id", None) == "super"
        self.assertEqual(supers, asked)
