"""Those rules of ../shared/LANGUAGE.md about names that can be seen in all files together."""

import ast
import unittest

from tests.test_language import LIBRARY, PACKAGE, nodes, sources

# L25: the methods of builtin values.
METHODS = set("""
    append clear copy count endswith extend find get index insert isalnum isalpha isdigit islower isspace isupper items
    join keys ljust lower lstrip partition pop remove replace reverse rfind rjust rpartition rsplit rstrip setdefault
    split splitlines startswith strip update upper values zfill bit_length title capitalize swapcase casefold center
    expandtabs removeprefix removesuffix rindex isascii isdecimal isnumeric istitle isidentifier isprintable translate
    add discard format
""".split())

# L5: the double-underscore methods that a class may have, with the parameters that they take.
DOUBLE = {
    "__eq__": ["self", "other"], "__len__": ["self"], "__contains__": ["self", "x"], "__getitem__": ["self", "at"],
    "__iter__": ["self"], "__add__": ["self", "other"], "__sub__": ["self", "other"], "__or__": ["self", "other"],
    "__neg__": ["self"], "__init__": None, "__call__": None,
}


def trees():
    return {f"paintposts.{path.stem}": ast.parse(path.read_text()) for path in sources()}


def bound_names(tree):
    """The names that a file binds at module level, each as often as it is bound."""
    names = []
    for row in tree.body:
        if isinstance(row, (ast.FunctionDef, ast.ClassDef)):
            names.append(row.name)
        elif isinstance(row, ast.Assign):
            names += [target.id for target in row.targets]
        elif isinstance(row, ast.ImportFrom):
            names += [alias.asname or alias.name for alias in row.names]
    return names


def imports(tree):
    return [row for row in ast.walk(tree) if isinstance(row, ast.ImportFrom)]


def functions(tree):
    return [node for node in ast.walk(tree) if isinstance(node, ast.FunctionDef)]


def is_generator(function):
    return any(isinstance(node, (ast.Yield, ast.YieldFrom)) for node in ast.walk(function))


class NamesTest(unittest.TestCase):
    def test_imports_name_the_file_that_defines_the_name(self):
        found = trees()
        for module, tree in found.items():
            for row in imports(tree):
                if row.module not in LIBRARY:
                    defined = set(bound_names(found[row.module])) - {
                        alias.name for inner in imports(found[row.module]) for alias in inner.names}
                    self.assertLessEqual({alias.name for alias in row.names}, defined, module)

    def test_no_circle_of_imports(self):
        waiting = {module: {row.module for row in imports(tree)} - set(LIBRARY) for module, tree in trees().items()}
        while waiting:
            ready = [module for module, needed in waiting.items() if not needed & set(waiting)]
            self.assertNotEqual(ready, [], waiting)
            for module in ready:
                del waiting[module]

    def test_names_are_bound_once_and_have_one_meaning(self):
        for module, tree in trees().items():
            names = bound_names(tree)
            self.assertEqual(len(names), len(set(names)), module)
            taken = {alias.name for row in imports(tree) for alias in row.names}
            taken |= {row.name for row in tree.body if isinstance(row, ast.ClassDef)}
            used = {node.id for node in ast.walk(tree) if isinstance(node, ast.Name) and isinstance(node.ctx, ast.Store)}
            used |= {node.arg for node in ast.walk(tree) if isinstance(node, ast.arg)}
            self.assertEqual(used & taken, set(), module)

    def test_all_imports_are_used(self):
        for module, tree in trees().items():
            read = {node.id for node in ast.walk(tree) if isinstance(node, ast.Name)}
            for row in imports(tree):
                self.assertLessEqual({alias.name for alias in row.names}, read, module)

    def test_module_level(self):
        for module, tree in trees().items():
            for row in tree.body:
                is_docstring = isinstance(row, ast.Expr) and isinstance(row.value, ast.Constant)
                allowed = (ast.FunctionDef, ast.ClassDef, ast.ImportFrom, ast.Assign)
                self.assertTrue(is_docstring or isinstance(row, allowed), (module, row))

    def test_generators_have_names_of_their_own(self):
        every = [function for tree in trees().values() for function in functions(tree)]
        for name in [function.name for function in every if is_generator(function)]:
            self.assertEqual([function.name for function in every].count(name), 1, name)
            self.assertNotIn(name, METHODS)

    def test_double_underscore_methods(self):
        for place, node in nodes():
            if isinstance(node, ast.ClassDef):
                rows = {row.name: row for row in node.body if isinstance(row, ast.FunctionDef)}
                for name, row in rows.items():
                    if name.startswith("__"):
                        names = [parameter.arg for parameter in row.args.args]
                        self.assertIn(DOUBLE[name], (None, names), (place, name))
                self.assertTrue("__getitem__" not in rows or "__iter__" in rows, place)
                if "__len__" in rows:
                    value = rows["__len__"].body[-1].value
                    self.assertEqual(value.func.id, "len", place)

    def test_called_methods_are_known(self):
        own = {function.name for tree in trees().values() for function in functions(tree)}
        for place, node in nodes():
            if isinstance(node, ast.Call) and isinstance(node.func, ast.Attribute):
                self.assertIn(node.func.attr, own | METHODS, place)

    def test_stars_in_calls_stand_before_names(self):
        for place, node in nodes():
            if isinstance(node, ast.Call):
                for value in node.args:
                    if isinstance(value, ast.Starred):
                        self.assertIsInstance(value.value, (ast.Name, ast.Attribute), place)

    def test_properties_are_no_other_names(self):
        every = [function for tree in trees().values() for function in functions(tree)]
        properties = {function.name for function in every if any(
            getattr(decorator, "id", None) == "property" for decorator in function.decorator_list)}
        plain = {function.name for function in every if not function.decorator_list}
        stored = {node.attr for place, node in nodes() if isinstance(node, ast.Attribute) and isinstance(node.ctx, ast.Store)}
        self.assertEqual(properties & (stored | METHODS), set())
        self.assertEqual(stored & plain, set())

    def test_words_that_stand_nowhere(self):
        for path in PACKAGE.rglob("*.py"):
            for word in ("_wall", "dataclass", "overload", "contextmanager", "Meta", "(type)"):
                self.assertNotIn(word, path.read_text(), path)
