"""What can be seen of the rules of the Python subset: files, sizes, signs, imports, statements, names."""

import ast
import pathlib
import unittest

PACKAGE = pathlib.Path(__file__).resolve().parent.parent / "leanfar"

LIBRARY = {"heapq": {"heapify", "heappop", "heappush"}, "itertools": {"combinations"}}

BUILTINS = {
    "len", "range", "enumerate", "zip", "min", "max", "sum", "sorted", "reversed", "int", "str", "bool", "list",
    "tuple", "dict", "set", "isinstance", "any", "all", "type", "ValueError",
}

STATEMENTS = (
    ast.Expr, ast.Assign, ast.AugAssign, ast.If, ast.While, ast.For, ast.Return, ast.Break, ast.Continue, ast.Pass,
    ast.Raise, ast.Delete, ast.Try, ast.FunctionDef, ast.ClassDef, ast.ImportFrom,
)

METHODS = {
    "append", "clear", "copy", "count", "extend", "get", "index", "insert", "items", "join", "keys", "partition",
    "pop", "remove", "reverse", "setdefault", "split", "startswith", "endswith", "isdigit", "update", "values", "add",
    "discard", "lower", "strip", "find", "replace", "bit_length",
    "isascii", "isalpha", "islower",
}


def files():
    return sorted(PACKAGE.rglob("*.py"))


def trees():
    return [(file, ast.parse(file.read_text())) for file in files()]


class Language(unittest.TestCase):

    def test_the_package_holds_files_of_python_only(self):
        found = [file for file in PACKAGE.rglob("*") if "__pycache__" not in file.parts]
        self.assertEqual(sorted(found), files())

    def test_sizes_and_signs(self):
        for file in files():
            text = file.read_text()
            self.assertTrue(all(sign == "\n" or " " <= sign <= "~" for sign in text), file)
            self.assertLessEqual(len(text.splitlines()), 399, file)
            self.assertLessEqual(max(map(len, text.splitlines()), default=0), 120, file)

    def test_functions_are_small_and_plain(self):
        for file, tree in trees():
            for node in ast.walk(tree):
                if isinstance(node, ast.FunctionDef):
                    self.assertLessEqual(node.end_lineno - node.lineno + 1, 40, (file, node.name))
                    self.assertIsNotNone(ast.get_docstring(node), (file, node.name))
                    self.assertEqual(node.decorator_list, [], (file, node.name))

    def test_statements(self):
        for file, tree in trees():
            for node in ast.walk(tree):
                if isinstance(node, ast.stmt):
                    self.assertIsInstance(node, STATEMENTS, (file, node.lineno))

    def test_imports_name_the_file_that_defines(self):
        for file, tree in trees():
            for node in ast.walk(tree):
                if isinstance(node, ast.ImportFrom):
                    for alias in node.names:
                        self.assertIsNone(alias.asname, file)
                        self.assertIn(alias.name, self.defined_in(node.module), file)

    def defined_in(self, module):
        if module in LIBRARY:
            return LIBRARY[module]
        path = PACKAGE.parent.joinpath(*module.split(".")).with_suffix(".py")
        return {node.name for node in ast.parse(path.read_text()).body if hasattr(node, "name")}

    def test_what_is_imported_is_used(self):
        for file, tree in trees():
            used = {node.id for node in ast.walk(tree) if isinstance(node, ast.Name)}
            for node in ast.walk(tree):
                if isinstance(node, ast.ImportFrom):
                    for alias in node.names:
                        self.assertIn(alias.name, used, file)

    def test_no_constants_of_other_kinds(self):
        for file, tree in trees():
            for node in ast.walk(tree):
                if isinstance(node, ast.Constant):
                    self.assertIn(type(node.value), (int, str, bool, type(None)), (file, node.lineno))
                    self.assertNotIn("%", str(node.value), (file, node.lineno))
                self.assertNotIsInstance(node, (ast.Div, ast.Lambda, ast.Global, ast.JoinedStr), file)

    def test_is_only_beside_none_and_truths(self):
        for file, tree in trees():
            for node in ast.walk(tree):
                if isinstance(node, ast.Compare):
                    for sign, side in zip(node.ops, node.comparators):
                        if isinstance(sign, (ast.Is, ast.IsNot)):
                            self.assertIsInstance(side, ast.Constant, (file, node.lineno))

    def test_names_that_are_read_are_known(self):
        for file, tree in trees():
            known = set(BUILTINS)
            for node in ast.walk(tree):
                if isinstance(node, (ast.FunctionDef, ast.ClassDef, ast.alias)):
                    known.add(node.name)
                elif isinstance(node, ast.arg):
                    known.add(node.arg)
                elif isinstance(node, ast.Name) and not isinstance(node.ctx, ast.Load):
                    self.assertNotIn(node.id, BUILTINS, (file, node.lineno))
                    known.add(node.id)
            for node in ast.walk(tree):
                if isinstance(node, ast.Name):
                    self.assertIn(node.id, known, (file, node.lineno))

    def test_methods_of_builtin_values(self):
        own = {node.name for _, tree in trees() for node in ast.walk(tree) if isinstance(node, ast.FunctionDef)}
        for file, tree in trees():
            for node in ast.walk(tree):
                if isinstance(node, ast.Call) and isinstance(node.func, ast.Attribute):
                    self.assertIn(node.func.attr, METHODS | own, (file, node.lineno))
