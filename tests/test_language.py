"""Rules of the language that a look at the files can check."""

import ast
import builtins
import pathlib
import unittest

PACKAGE = pathlib.Path(__file__).resolve().parent.parent / "laterways"
FILES = sorted(path for path in PACKAGE.rglob("*.py"))
BUILTINS = set(
    "len range enumerate zip min max sum abs sorted reversed int str bool bytes list tuple dict set isinstance ord "
    "repr any all divmod iter next ValueError TypeError KeyError IndexError LookupError NotImplemented super "
    "property staticmethod".split()
)
METHODS = set(
    "__init__ __eq__ __repr__ __str__ __len__ __call__ __iter__ __le__ __add__ __radd__ __and__ __or__ __rshift__ "
    "__contains__ __getitem__ __setitem__".split()
)
BARRED = set(
    "type typing enum register mro elements open input law eval exec compile globals locals vars dir id help".split()
)
FUNCTIONS = (ast.FunctionDef, ast.Lambda)


def trees():
    return [(path, ast.parse(path.read_text(encoding="utf-8"))) for path in FILES]


def nodes(kinds):
    return [(path, node) for path, tree in trees() for node in ast.walk(tree) if isinstance(node, kinds)]


def is_plain(node):
    """A number or a string for sure."""
    if isinstance(node, ast.Constant):
        return True
    return isinstance(node, ast.Call) and isinstance(node.func, ast.Name) and node.func.id in ("len", "int", "ord", "str")


class Files(unittest.TestCase):
    def test_only_python_files(self):
        found = [path for path in PACKAGE.rglob("*") if path.is_file() and path.suffix != ".py"]
        self.assertEqual([path for path in found if path.parent.name != "__pycache__"], [])

    def test_sizes(self):
        for path in FILES:
            lines = path.read_text(encoding="utf-8").split("\n")
            self.assertLessEqual(len(lines), 400, path)
            self.assertLessEqual(max(len(line) for line in lines), 120, path)
        for path, node in nodes(ast.FunctionDef):
            self.assertLessEqual(node.end_lineno - node.lineno + 1, 40, (path, node.name))

    def test_signs(self):
        for path in FILES:
            text = path.read_text(encoding="utf-8")
            self.assertEqual([sign for sign in text if sign != "\n" and not " " <= sign <= "~"], [], path)
        for path, node in nodes(ast.Constant):
            if isinstance(node.value, str):
                self.assertNotIn(chr(37), node.value, path)


class Imports(unittest.TestCase):
    def test_only_from_the_package(self):
        self.assertEqual(nodes(ast.Import), [])
        for path, node in nodes(ast.ImportFrom):
            self.assertEqual(node.level, 0, path)
            self.assertTrue(node.module.startswith("laterways."), (path, node.module))
            for alias in node.names:
                self.assertIsNone(alias.asname, path)

    def test_from_the_defining_file_and_used(self):
        defined = {}
        for path, tree in trees():
            names = {node.name for node in tree.body if isinstance(node, (ast.FunctionDef, ast.ClassDef))}
            names |= {node.targets[0].id for node in tree.body if isinstance(node, ast.Assign)}
            defined["laterways." + path.stem] = names
        for path, tree in trees():
            used = {node.id for node in ast.walk(tree) if isinstance(node, ast.Name)}
            for node in tree.body:
                if isinstance(node, ast.ImportFrom):
                    for alias in node.names:
                        self.assertIn(alias.name, defined[node.module], path)
                        self.assertIn(alias.name, used, path)

    def test_no_rings(self):
        needs = {}
        for path, tree in trees():
            needs["laterways." + path.stem] = {x.module for x in tree.body if isinstance(x, ast.ImportFrom)}
        while needs:
            free = [name for name, others in needs.items() if not others & set(needs)]
            self.assertTrue(free, needs)
            for name in free:
                del needs[name]


class Words(unittest.TestCase):
    def test_builtins(self):
        for path, node in nodes(ast.Name):
            if hasattr(builtins, node.id):
                self.assertIn(node.id, BUILTINS, (path, node.lineno))
                self.assertIsInstance(node.ctx, ast.Load, (path, node.lineno))
        for path, node in nodes((ast.FunctionDef, ast.ClassDef, ast.arg)):
            name = node.arg if isinstance(node, ast.arg) else node.name
            if not name.startswith("__"):
                self.assertFalse(hasattr(builtins, name), (path, name))

    def test_barred_words(self):
        for path, node in nodes((ast.Name, ast.Attribute, ast.arg, ast.FunctionDef, ast.ClassDef)):
            for field in ("id", "attr", "arg", "name"):
                self.assertNotIn(getattr(node, field, ""), BARRED, (path, node.lineno))

    def test_names_of_methods(self):
        for path, node in nodes(ast.FunctionDef):
            if node.name.startswith("__"):
                self.assertIn(node.name, METHODS, path)

    def test_no_name_of_a_class_or_an_import_is_given_again(self):
        for path, tree in trees():
            taken = {alias.name for x in tree.body if isinstance(x, ast.ImportFrom) for alias in x.names}
            taken |= {x.name for x in tree.body if isinstance(x, ast.ClassDef)}
            for node in ast.walk(tree):
                if isinstance(node, ast.arg):
                    self.assertNotIn(node.arg, taken, path)
                if isinstance(node, ast.Name) and isinstance(node.ctx, ast.Store):
                    self.assertNotIn(node.id, taken, (path, node.lineno))


class Statements(unittest.TestCase):
    def test_what_is_not_used(self):
        kinds = (
            ast.GeneratorExp, ast.Global, ast.AsyncFunctionDef, ast.Await, ast.Yield, ast.YieldFrom, ast.Set,
            ast.SetComp, ast.Div, ast.AnnAssign, ast.Mod, ast.Pow, ast.With, ast.Lambda,
        )
        self.assertEqual([(path.name, node.lineno) for path, node in nodes(kinds) if hasattr(node, "lineno")], [])
        self.assertEqual([path.name for path, node in nodes((ast.Div, ast.Mod, ast.Pow))], [])

    def test_numbers_only_where_maps_have_no_order(self):
        for path, node in nodes(ast.Call):
            if isinstance(node.func, ast.Name) and node.func.id in ("min", "max", "sorted"):
                self.assertTrue(any(is_plain(x) for x in node.args), (path, node.lineno))

    def test_only_literal_integers_are_added_in_place(self):
        for path, node in nodes(ast.AugAssign):
            self.assertIsInstance(node.value, ast.Constant, (path, node.lineno))
            self.assertIsInstance(node.value.value, int, (path, node.lineno))

    def test_is_only_with_none_true_false(self):
        for path, node in nodes(ast.Compare):
            for sign, right in zip(node.ops, node.comparators):
                if isinstance(sign, (ast.Is, ast.IsNot)):
                    self.assertIsInstance(right, ast.Constant, (path, node.lineno))

    def test_module_level(self):
        """A table may have functions that are defined above it; other values are plain."""
        allowed = (ast.ImportFrom, ast.FunctionDef, ast.ClassDef, ast.Assign, ast.Expr)
        for path, tree in trees():
            above = set()
            for node in tree.body:
                self.assertIsInstance(node, allowed, (path, node.lineno))
                if isinstance(node, ast.FunctionDef):
                    above.add(node.name)
                if isinstance(node, ast.Expr):
                    self.assertIsInstance(node.value, ast.Constant, path)
                if isinstance(node, ast.Assign):
                    values = node.value.values if isinstance(node.value, ast.Dict) else [node.value]
                    for value in values:
                        if not isinstance(value, ast.Name) or value.id not in above:
                            ast.literal_eval(value)

    def test_a_function_from_a_table_gets_a_name_first(self):
        for path, node in nodes(ast.Call):
            self.assertIsInstance(node.func, (ast.Name, ast.Attribute), (path, node.lineno))

    def test_stars_stand_over_names(self):
        for path, node in nodes(ast.Starred):
            self.assertIsInstance(node.value, (ast.Name, ast.Attribute), (path, node.lineno))

    def test_what_a_loop_goes_over_is_not_changed_in_it(self):
        """No method or assignment changes a name that a loop around it goes over."""
        for path, node in nodes(ast.For):
            over = {x.id for x in ast.walk(node.iter) if isinstance(x, ast.Name)}
            for inner in [x for row in node.body for x in ast.walk(row)]:
                if isinstance(inner, ast.Call) and isinstance(inner.func, ast.Attribute):
                    if inner.func.attr in ("append", "extend", "insert", "pop", "remove", "clear", "update"):
                        changed = inner.func.value.id if isinstance(inner.func.value, ast.Name) else ""
                        self.assertNotIn(changed, over, (path, inner.lineno))
                if isinstance(inner, ast.Subscript) and isinstance(inner.ctx, ast.Store):
                    changed = inner.value.id if isinstance(inner.value, ast.Name) else ""
                    self.assertNotIn(changed, over, (path, inner.lineno))

    def test_no_object_of_the_package_is_tested_for_truth_by_its_length(self):
        """Tests of conditions are comparisons, calls, names of booleans: no bare attribute."""
        for path, node in nodes((ast.If, ast.While, ast.IfExp)):
            self.assertNotIsInstance(node.test, ast.Attribute, (path, node.lineno))


if __name__ == "__main__":
    unittest.main()
