"""What can be seen of the rules of the Python subset: files, sizes, signs, imports, statements, names."""

import ast
import builtins
import pathlib
import unittest

PACKAGE = pathlib.Path(__file__).resolve().parent.parent / "leanfar"

LIBRARY = {
    "heapq": {"heapify", "heappop", "heappush"}, "itertools": {"combinations"}, "collections": {"deque"},
}

BUILTINS = {
    "len", "range", "enumerate", "zip", "min", "max", "sum", "sorted", "reversed", "int", "str", "bool", "list",
    "tuple", "dict", "set", "isinstance", "any", "all", "type", "ValueError", "divmod",
}

# Names that stand nowhere, and words that stand in no string either (L17).
BARRED = {"register", "mro", "elements", "open", "input", "law", "version_info", "with_traceback", "add_note"}
BARRED_NAMES = {"id", "dir", "vars", "eval", "exec", "exit", "help", "compile", "globals", "locals", "os", "sys", "super"}
BARRED_WORDS = ["typing", "enum", "Enum", "Flag", "Generic", "Protocol", "namedtuple", "dataclass", "overload"]

STATEMENTS = (
    ast.Expr, ast.Assign, ast.AugAssign, ast.If, ast.While, ast.For, ast.Return, ast.Break, ast.Continue, ast.Pass,
    ast.Raise, ast.Delete, ast.Try, ast.FunctionDef, ast.ClassDef, ast.ImportFrom,
)

METHODS = {
    "append", "clear", "copy", "count", "extend", "get", "index", "insert", "items", "join", "keys", "partition",
    "pop", "remove", "reverse", "setdefault", "split", "startswith", "endswith", "isdigit", "update", "values", "add",
    "discard", "lower", "strip", "find", "replace", "bit_length",
    "isascii", "isalpha", "islower", "zfill", "popleft",
}


def files():
    return sorted(PACKAGE.rglob("*.py"))


def trees():
    return [(file, ast.parse(file.read_text())) for file in files()]


class Language(unittest.TestCase):

    def test_the_package_holds_files_of_python_only(self):
        found = [file for file in PACKAGE.rglob("*") if "__pycache__" not in file.parts]
        self.assertEqual(sorted(found), files())

    def test_sizes_and_signs(self):
        for file in files():
            text = file.read_text()
            self.assertTrue(all(sign == "\n" or " " <= sign <= "~" for sign in text), file)
            self.assertLessEqual(len(text.splitlines()), 399, file)
            self.assertLessEqual(max(map(len, text.splitlines()), default=0), 120, file)

    def test_functions_are_small_and_plain(self):
        for file, tree in trees():
            for node in ast.walk(tree):
                if isinstance(node, ast.FunctionDef):
                    self.assertLessEqual(node.end_lineno - node.lineno + 1, 40, (file, node.name))
                    self.assertIsNotNone(ast.get_docstring(node), (file, node.name))
                    self.assertEqual(node.decorator_list, [], (file, node.name))

    def test_statements(self):
        for file, tree in trees():
            for node in ast.walk(tree):
                if isinstance(node, ast.stmt):
                    self.assertIsInstance(node, STATEMENTS, (file, node.lineno))

    def test_imports_name_the_file_that_defines(self):
        for file, tree in trees():
            for node in ast.walk(tree):
                if isinstance(node, ast.ImportFrom):
                    for alias in node.names:
                        self.assertIsNone(alias.asname, file)
                        self.assertIn(alias.name, self.defined_in(node.module), file)

    def defined_in(self, module):
        if module in LIBRARY:
            return LIBRARY[module]
        path = PACKAGE.parent.joinpath(*module.split(".")).with_suffix(".py")
        return {node.name for node in ast.parse(path.read_text()).body if hasattr(node, "name")}

    def test_what_is_imported_is_used(self):
        for file, tree in trees():
            used = {node.id for node in ast.walk(tree) if isinstance(node, ast.Name)}
            for node in ast.walk(tree):
                if isinstance(node, ast.ImportFrom):
                    for alias in node.names:
                        self.assertIn(alias.name, used, file)

    def test_no_constants_of_other_kinds(self):
        for file, tree in trees():
            for node in ast.walk(tree):
                if isinstance(node, ast.Constant):
                    self.assertIn(type(node.value), (int, str, bool, type(None)), (file, node.lineno))
                    self.assertNotIn("%", str(node.value), (file, node.lineno))
                self.assertNotIsInstance(node, (ast.Div, ast.Lambda, ast.Global, ast.JoinedStr), file)

    def test_is_only_beside_none_and_truths(self):
        for file, tree in trees():
            for node in ast.walk(tree):
                if isinstance(node, ast.Compare):
                    for sign, side in zip(node.ops, node.comparators):
                        if isinstance(sign, (ast.Is, ast.IsNot)):
                            self.assertIsInstance(side, ast.Constant, (file, node.lineno))

    def test_names_that_are_read_are_known(self):
        for file, tree in trees():
            known = set(BUILTINS)
            for node in ast.walk(tree):
                if isinstance(node, (ast.FunctionDef, ast.ClassDef, ast.alias)):
                    known.add(node.name)
                elif isinstance(node, ast.arg):
                    known.add(node.arg)
                elif isinstance(node, ast.Name) and not isinstance(node.ctx, ast.Load):
                    self.assertNotIn(node.id, BUILTINS, (file, node.lineno))
                    known.add(node.id)
            for node in ast.walk(tree):
                if isinstance(node, ast.Name):
                    self.assertIn(node.id, known, (file, node.lineno))

    def test_methods_of_builtin_values(self):
        own = {node.name for _, tree in trees() for node in ast.walk(tree) if isinstance(node, ast.FunctionDef)}
        for file, tree in trees():
            for node in ast.walk(tree):
                if isinstance(node, ast.Call) and isinstance(node.func, ast.Attribute):
                    self.assertIn(node.func.attr, METHODS | own, (file, node.lineno))

    def test_names_that_are_not_used(self):
        for file, tree in trees():
            for node in ast.walk(tree):
                for name in names_of(node):
                    self.assertNotIn(name, BARRED, (file, node.lineno))
                    self.assertNotIn(name, dir(builtins) if isinstance(node, (ast.arg, ast.FunctionDef)) else [], file)
                    self.assertRegex(name, "^(_?[A-Za-z][A-Za-z0-9_]*|_|__init__)$", (file, node.lineno))
                if isinstance(node, ast.Name) and isinstance(node.ctx, ast.Store):
                    self.assertNotIn(node.id, set(dir(builtins)) | BARRED_NAMES, (file, node.lineno))
                if isinstance(node, ast.Name) and isinstance(node.ctx, ast.Load):
                    self.assertNotEqual(node.id, "_", (file, node.lineno))
            for word in BARRED_WORDS:
                self.assertNotRegex(file.read_text(), rf"\b{word}\b", file)

    def test_module_level(self):
        """Imports, functions, classes and plain values, each name bound once; lists and dicts there are only read."""
        for file, tree in trees():
            kept = set()
            bound = []
            for node in tree.body:
                bound += [alias.name for alias in getattr(node, "names", [])]
                if isinstance(node, (ast.FunctionDef, ast.ClassDef)):
                    bound.append(node.name)
                if isinstance(node, ast.Assign):
                    bound.append(node.targets[0].id)
                    self.assertEqual(len(node.targets), 1, file)
                    if isinstance(node.value, (ast.Dict, ast.List)):
                        kept.add(node.targets[0].id)
                elif not isinstance(node, (ast.ImportFrom, ast.FunctionDef, ast.ClassDef)):
                    self.assertIsInstance(node.value, ast.Constant, file)
            self.assertEqual(len(bound), len(set(bound)), file)
            reads = [part for node in ast.walk(tree) for part in self.reads_of(node)]
            for node in ast.walk(tree):
                if isinstance(node, ast.Name) and isinstance(node.ctx, ast.Load) and node.id in kept:
                    self.assertIn(node, reads, (file, node.lineno))

    def reads_of(self, node):
        """Where a list or a dict may stand that is only read: before an index or get, behind in, in a loop's head."""
        if isinstance(node, ast.Subscript) and isinstance(node.ctx, ast.Load):
            return [node.value]
        if isinstance(node, ast.Attribute) and node.attr == "get":
            return [node.value]
        if isinstance(node, ast.Compare) and isinstance(node.ops[0], (ast.In, ast.NotIn)):
            return node.comparators
        return [node.iter] if isinstance(node, (ast.For, ast.comprehension)) else []

    def test_locals_have_other_names_than_imports_and_classes(self):
        for file, tree in trees():
            taken = {alias.name for node in tree.body if isinstance(node, ast.ImportFrom) for alias in node.names}
            taken |= {node.name for node in tree.body if isinstance(node, ast.ClassDef)}
            for node in ast.walk(tree):
                if isinstance(node, ast.arg):
                    self.assertNotIn(node.arg, taken, (file, node.lineno))
                if isinstance(node, ast.Name) and isinstance(node.ctx, ast.Store):
                    self.assertNotIn(node.id, taken, (file, node.lineno))

    def test_no_two_files_import_from_each_other(self):
        imports = {
            "leanfar." + file.stem: [node.module for node in tree.body if isinstance(node, ast.ImportFrom)]
            for file, tree in trees()
        }
        left = dict(imports)
        while left:
            free = [file for file in left if not any(module in left for module in left[file])]
            self.assertNotEqual(free, [], "a ring of imports")
            left = {file: left[file] for file in left if file not in free}

    def test_kinds_are_asked_for_in_one_way(self):
        """type(x) stands only beside a kind by its name, as L8 and L20 leave it."""
        for file, tree in trees():
            beside = []
            for node in ast.walk(tree):
                if isinstance(node, ast.Compare) and isinstance(node.ops[0], (ast.Eq, ast.NotEq)):
                    if isinstance(node.comparators[0], ast.Name) and node.comparators[0].id in BUILTINS:
                        beside.append(node.left)
            for node in ast.walk(tree):
                if isinstance(node, ast.Call) and isinstance(node.func, ast.Name) and node.func.id == "type":
                    self.assertIn(node, beside, (file, node.lineno))

    def test_exponents(self):
        for file, tree in trees():
            for node in ast.walk(tree):
                if isinstance(node, ast.BinOp) and isinstance(node.op, ast.Pow):
                    ends = [node.right.right] if isinstance(node.right, ast.BinOp) else [node.right]
                    for end in ends:
                        self.assertIsInstance(end, ast.Constant, (file, node.lineno))
                        self.assertIn(end.value, range(66), (file, node.lineno))

    def test_sets_are_not_kept(self):
        """Sets stand in sorted, in len, behind in, or beside == only (L24)."""
        for file, tree in trees():
            allowed = []
            for node in ast.walk(tree):
                if isinstance(node, ast.Call) and isinstance(node.func, ast.Name) and node.func.id in ("sorted", "len"):
                    allowed += node.args
                if isinstance(node, ast.Compare) and isinstance(node.ops[0], (ast.In, ast.NotIn, ast.Eq, ast.NotEq)):
                    allowed += [node.left, *node.comparators]
            for node in ast.walk(tree):
                called = isinstance(node, ast.Call) and isinstance(node.func, ast.Name) and node.func.id == "set"
                if called or isinstance(node, (ast.Set, ast.SetComp)):
                    self.assertIn(node, allowed, (file, node.lineno))

    def test_methods_and_attributes_have_unlike_names(self):
        builtin = {name for kind in (str, int, list, dict, set, bytes) for name in dir(kind)}
        for file, tree in trees():
            for kind in [node for node in tree.body if isinstance(node, ast.ClassDef)]:
                methods = [node.name for node in kind.body if isinstance(node, ast.FunctionDef)]
                self.assertEqual(len(methods), len(set(methods)), (file, kind.name))
                attributes = {node.attr for node in ast.walk(kind)
                              if isinstance(node, ast.Attribute) and isinstance(node.ctx, ast.Store)}
                self.assertEqual(attributes & set(methods), set(), (file, kind.name))
                self.assertEqual(attributes & builtin, set(), (file, kind.name))
                self.assertLessEqual(set(methods) & builtin, METHODS | {"__init__"}, (file, kind.name))


def names_of(node):
    """The names that a part of the code gives or reads."""
    if isinstance(node, (ast.FunctionDef, ast.ClassDef, ast.alias)):
        return node.name.split(".")
    if isinstance(node, ast.arg):
        return [node.arg]
    if isinstance(node, ast.Attribute):
        return [node.attr]
    return [node.id] if isinstance(node, ast.Name) else []
