"""The package keeps to the small part of Python that it is written in, as far as a test can see it."""

import ast
import builtins
import pathlib
import re
import unittest

PACKAGE = pathlib.Path(__file__).resolve().parent.parent / "thinbook"
FILES = sorted(PACKAGE.glob("*.py"))

NODES = """
    Module Expr ImportFrom alias FunctionDef ClassDef arguments arg Lambda Return Assign AugAssign If While For Break
    Continue Pass Raise Try ExceptHandler Name Attribute Subscript Slice Constant List Tuple Dict Set ListComp
    comprehension Call keyword BinOp UnaryOp BoolOp Compare IfExp JoinedStr FormattedValue Load Store Add Sub Mult
    FloorDiv Mod Pow BitAnd BitOr BitXor LShift RShift Invert Not USub UAdd And Or Eq NotEq Lt LtE Gt GtE Is IsNot In
    NotIn
""".split()

BUILT_IN = """
    len range enumerate zip min max sum abs sorted reversed int str bool list tuple dict set frozenset isinstance ord
    repr any all divmod Exception ValueError TypeError KeyError IndexError LookupError ZeroDivisionError
    ArithmeticError OverflowError RuntimeError NotImplementedError AttributeError StopIteration
""".split()

METHODS = """
    append clear copy count endswith extend find get index insert isalnum isalpha isdigit islower isspace isupper items
    join keys ljust lower lstrip partition pop remove replace reverse rfind rjust rpartition rsplit rstrip setdefault
    split splitlines startswith strip update upper values zfill bit_length
""".split()

OWN_METHODS = "__init__ __eq__ __repr__ __str__ __len__".split()

WORDS = """
    type typing typing_extensions enum Enum IntEnum StrEnum Flag IntFlag Generic Protocol ABC ABCMeta namedtuple
    NamedTuple TypedDict TYPE_CHECKING abstractmethod
""".split()
PARTS = "dataclass overload contextmanager".split()

NOT_USED = """
    register mro elements open input version_info with_traceback add_note format format_map
""".split()


def trees():
    return [(path, ast.parse(path.read_text("ascii"))) for path in FILES]


def walked():
    for path, tree in trees():
        for node in ast.walk(tree):
            yield f"{path.name}:{getattr(node, 'lineno', 0)}", node


def methods_and_values():
    """The names of the package's own methods, and those of its objects' values."""
    methods, values = set(), set()
    for where, node in walked():
        if isinstance(node, ast.ClassDef):
            methods.update(item.name for item in node.body if isinstance(item, ast.FunctionDef))
        if isinstance(node, ast.Attribute) and isinstance(node.ctx, ast.Store):
            values.add(node.attr)
    return methods, values


def own_names():
    """Every name that the package binds itself."""
    names = set()
    for where, node in walked():
        if isinstance(node, (ast.FunctionDef, ast.ClassDef)):
            names.add(node.name)
        elif isinstance(node, ast.arg):
            names.add(node.arg)
        elif isinstance(node, ast.Name) and isinstance(node.ctx, ast.Store):
            names.add(node.id)
        elif isinstance(node, ast.ExceptHandler) and node.name:
            names.add(node.name)
        elif isinstance(node, ast.alias):
            names.add(node.asname or node.name)
    return names


class Files(unittest.TestCase):
    def test_nothing_but_plain_files_lies_in_the_package(self):
        self.assertIn(PACKAGE / "__init__.py", FILES)
        others = [path for path in PACKAGE.iterdir() if path not in FILES and path.name != "__pycache__"]
        self.assertEqual(others, [])
        for path in FILES:
            self.assertRegex(path.name, r"\A(__init__|[a-z][a-z0-9_]*)\.py\Z")

    def test_signs_and_sizes(self):
        for path in FILES:
            text = path.read_bytes().decode("ascii")
            self.assertRegex(text, r"\A[ -~\n]*\Z", path.name)
            rows = text.split("\n")
            self.assertLessEqual(len(rows), 400, path.name)
            self.assertLessEqual(max(len(row) for row in rows), 120, path.name)

    def test_functions_are_short(self):
        for where, node in walked():
            if isinstance(node, ast.FunctionDef):
                self.assertLessEqual(node.end_lineno - node.lineno + 1, 40, where)

    def test_words_that_stand_nowhere(self):
        for path in FILES:
            text = path.read_text("ascii")
            for word in WORDS:
                self.assertIsNone(re.search(rf"\b{word}\b", text), (path.name, word))
            for part in PARTS:
                self.assertNotIn(part, text, path.name)


class Forms(unittest.TestCase):
    def test_just_the_forms_that_are_allowed(self):
        for where, node in walked():
            self.assertIn(node.__class__.__name__, NODES, where)

    def test_values_are_plain(self):
        for where, node in walked():
            if isinstance(node, ast.Constant):
                self.assertIn(node.value.__class__.__name__, ("int", "str", "bool", "NoneType"), where)

    def test_functions_and_classes_are_plain(self):
        for where, node in walked():
            if isinstance(node, (ast.FunctionDef, ast.ClassDef)):
                self.assertEqual(node.decorator_list, [], where)
            if isinstance(node, ast.ClassDef):
                self.assertLessEqual(len(node.bases), 1, where)
            if isinstance(node, ast.arguments):
                self.assertEqual((node.vararg, node.kwarg, node.kwonlyargs, node.posonlyargs), (None, None, [], []))

    def test_statements_are_plain(self):
        for where, node in walked():
            if isinstance(node, ast.Assign):
                self.assertEqual(len(node.targets), 1, where)
            if isinstance(node, (ast.For, ast.While)):
                self.assertEqual(node.orelse, [], where)
            if isinstance(node, ast.Try):
                self.assertEqual(node.finalbody, [], where)
            if isinstance(node, ast.ListComp):
                self.assertEqual(len(node.generators), 1, where)
                self.assertLessEqual(len(node.generators[0].ifs), 1, where)

    def test_is_stands_beside_none_true_and_false_alone(self):
        for where, node in walked():
            if isinstance(node, ast.Compare) and isinstance(node.ops[0], (ast.Is, ast.IsNot)):
                sides = [side for side in [node.left] + node.comparators if isinstance(side, ast.Constant)]
                self.assertTrue([side for side in sides if side.value in (None, True, False)], where)


    def test_sets_are_neither_kept_nor_walked(self):
        for path, tree in trees():
            held = set()
            for node in ast.walk(tree):
                if isinstance(node, ast.Call) and getattr(node.func, "id", None) in ("sorted", "len"):
                    held.update(node.args)
                if isinstance(node, ast.Compare):
                    held.update([node.left] + node.comparators)
            for node in ast.walk(tree):
                if isinstance(node, ast.Call) and getattr(node.func, "id", None) in ("set", "frozenset"):
                    self.assertTrue(node in held, (path.name, node.lineno))

    def test_lists_and_dicts_of_a_file_s_top_are_only_read(self):
        for path, tree in trees():
            top = {row.targets[0].id for row in tree.body
                   if isinstance(row, ast.Assign) and isinstance(row.value, (ast.List, ast.Dict))}
            read = set()
            for node in ast.walk(tree):
                if isinstance(node, ast.Subscript) and isinstance(node.ctx, ast.Load):
                    read.add(node.value)
                if isinstance(node, ast.Compare):
                    read.update(node.comparators)
            for node in ast.walk(tree):
                if isinstance(node, ast.Name) and isinstance(node.ctx, ast.Load) and node.id in top:
                    self.assertTrue(node in read, (path.name, node.lineno))

    def test_errors_of_python_s_own_are_not_taken(self):
        for where, node in walked():
            if isinstance(node, ast.ExceptHandler):
                names = [part.id for part in ast.walk(node.type) if isinstance(part, ast.Name)]
                self.assertEqual(set(names) & set(dir(builtins)), set(), where)


class Names(unittest.TestCase):
    def test_names_are_plain(self):
        for name in own_names():
            if name not in OWN_METHODS:
                self.assertRegex(name, r"\A[A-Za-z][A-Za-z0-9_]*\Z")
            self.assertNotIn(name, NOT_USED)

    def test_names_not_the_package_s_own_are_allowed_ones_of_python(self):
        own = own_names()
        for where, node in walked():
            if isinstance(node, ast.Name) and node.id not in own:
                self.assertIn(node.id, BUILT_IN, where)

    def test_no_name_of_python_s_own_has_another_meaning(self):
        methods, values = methods_and_values()
        self.assertEqual((own_names() - methods) & set(dir(builtins)), set())

    def test_no_parameter_or_local_is_called_like_a_name_of_the_file_s_top(self):
        for path, tree in trees():
            top = {node.name for node in tree.body if isinstance(node, (ast.FunctionDef, ast.ClassDef))}
            top.update(alias.asname or alias.name for row in tree.body if isinstance(row, ast.ImportFrom)
                       for alias in row.names)
            for node in ast.walk(tree):
                if isinstance(node, ast.arg):
                    self.assertNotIn(node.arg, top, path.name)
                if isinstance(node, ast.Name) and isinstance(node.ctx, ast.Store):
                    self.assertNotIn(node.id, top, path.name)

    def test_attributes_are_own_ones_or_allowed_ones(self):
        methods, values = methods_and_values()
        for where, node in walked():
            if isinstance(node, ast.Attribute):
                self.assertIn(node.attr, methods | values | set(METHODS) | {"__init__"}, where)

    def test_classes_are_called_and_not_handed_on(self):
        own = {node.name for where, node in walked() if isinstance(node, ast.ClassDef)}
        taken = set()
        for where, node in walked():
            if isinstance(node, ast.Call):
                # Also a base's own way to make an object, as in BookError.__init__(self, ..).
                taken.add(node.func)
                taken.add(getattr(node.func, "value", None))
                if getattr(node.func, "id", None) == "isinstance":
                    taken.update(ast.walk(node.args[1]))
            elif isinstance(node, ast.ClassDef):
                taken.update(node.bases)
            elif isinstance(node, ast.ExceptHandler):
                taken.update(ast.walk(node.type))
            if isinstance(node, ast.Name) and node.id in own:
                self.assertTrue(node in taken, where)

    def test_methods_are_called_where_they_stand(self):
        methods, values = methods_and_values()
        taken = set()
        for where, node in walked():
            if isinstance(node, ast.Call):
                taken.add(node.func)
            if isinstance(node, ast.Attribute) and node.attr not in values:
                self.assertTrue(node in taken, where)

    def test_no_name_is_a_method_and_a_value(self):
        methods, values = methods_and_values()
        self.assertEqual(methods & values, set())


class Imports(unittest.TestCase):
    def drawn(self):
        return {path.stem: [node for node in ast.walk(tree) if isinstance(node, ast.ImportFrom)]
                for path, tree in trees()}

    def test_only_own_names_from_the_file_that_defines_them(self):
        defined = {path.stem: {node.name for node in tree.body if isinstance(node, (ast.FunctionDef, ast.ClassDef))}
                   for path, tree in trees()}
        for stem, rows in self.drawn().items():
            for row in rows:
                self.assertEqual((row.level, row.module.split(".")[0]), (0, "thinbook"), stem)
                for alias in row.names:
                    self.assertIn(alias.name, defined[row.module.split(".")[1]], stem)

    def test_no_two_files_draw_from_one_another(self):
        left = {stem: {row.module.split(".")[1] for row in rows} for stem, rows in self.drawn().items()}
        while left:
            free = [stem for stem, needs in left.items() if not needs & set(left)]
            self.assertNotEqual(free, [], left)
            left = {stem: needs for stem, needs in left.items() if stem not in free}


if __name__ == "__main__":
    unittest.main()
