"""The form of the package, as far as a short look can check it: most of L1 to L20 and L22 to L28.

A pass here doesn't show that every rule holds; the rest is for the reader.
"""

import ast
import builtins
import pathlib
import re
import unittest

PACKAGE = pathlib.Path(__file__).resolve().parent.parent / "manyjudges"

STATEMENTS = (
    ast.Module, ast.ImportFrom, ast.alias, ast.FunctionDef, ast.arguments, ast.arg, ast.ClassDef, ast.Assign,
    ast.AugAssign, ast.If, ast.While, ast.For, ast.Return, ast.Break, ast.Continue, ast.Pass, ast.Raise, ast.Try,
    ast.ExceptHandler, ast.Expr,
)
EXPRESSIONS = (
    ast.Constant, ast.Name, ast.List, ast.Tuple, ast.Dict, ast.Set, ast.BinOp, ast.UnaryOp, ast.BoolOp, ast.Compare,
    ast.IfExp, ast.Call, ast.keyword, ast.Attribute, ast.Subscript, ast.Slice, ast.ListComp, ast.comprehension,
    ast.JoinedStr, ast.FormattedValue, ast.Lambda, ast.expr_context, ast.boolop, ast.operator, ast.unaryop, ast.cmpop,
)
BUILT_IN = """
    len range enumerate zip min max sum abs sorted reversed int str bool list tuple dict set frozenset isinstance ord
    repr any all divmod Exception ValueError TypeError KeyError IndexError LookupError ZeroDivisionError
    ArithmeticError OverflowError RuntimeError NotImplementedError AttributeError StopIteration
""".split()
METHODS = """
    append clear copy count endswith extend find get index insert isalnum isalpha isdigit islower isspace isupper
    items join keys ljust lower lstrip partition pop remove replace reverse rfind rjust rpartition rsplit rstrip
    setdefault split splitlines startswith strip update upper values zfill bit_length
""".split()
SPECIAL = ("__init__", "__eq__", "__repr__", "__str__", "__len__")
WORDS = re.compile(
    r"\b(type|typing|typing_extensions|enum|Enum|IntEnum|StrEnum|Flag|IntFlag|Generic|Protocol|ABC|ABCMeta"
    r"|namedtuple|NamedTuple|TypedDict|TYPE_CHECKING|abstractmethod)\b|dataclass|overload|contextmanager"
)
WALKED = "zip enumerate reversed range items keys values".split()
WALKERS = "list tuple dict sorted sum any all enumerate zip min max".split()
KEYWORDS = {
    "sorted": ("key", "reverse"), "min": ("key", "default"), "max": ("key", "default"), "sum": ("start",),
    "enumerate": ("start",), "zip": ("strict",),
}
NOT_AS_VALUES = """
    items keys values pop update append clear extend insert remove reverse setdefault sort args encode format
""".split()
UNUSED = "register mro elements open input version_info with_traceback add_note format format_map".split()


def files():
    return sorted(PACKAGE.rglob("*.py"))


def trees():
    return [(path, ast.parse(path.read_text(encoding="ascii"))) for path in files()]


def nodes():
    for path, tree in trees():
        for node in ast.walk(tree):
            yield f"{path.name}:{getattr(node, 'lineno', 1)}", node


def top_names(tree):
    for node in tree.body:
        if isinstance(node, (ast.FunctionDef, ast.ClassDef)):
            yield node.name
        elif isinstance(node, ast.Assign):
            yield node.targets[0].id


def methods_of(tree):
    for node in tree.body:
        if isinstance(node, ast.ClassDef):
            for inner in node.body:
                yield inner


def bound_name(node):
    if isinstance(node, (ast.FunctionDef, ast.ClassDef)):
        return node.name
    if isinstance(node, ast.arg):
        return node.arg
    if isinstance(node, ast.Name) and isinstance(node.ctx, ast.Store):
        return node.id
    return None


def imports_of(tree):
    return [node for node in tree.body if isinstance(node, ast.ImportFrom)]


def called_name(node):
    """The name of what is called, be it a function or a method."""
    if not isinstance(node, ast.Call):
        return None
    return node.func.attr if isinstance(node.func, ast.Attribute) else getattr(node.func, "id", None)


def walked_on_the_spot(tree):
    """The nodes that stand where L23 lets something be walked."""
    for node in ast.walk(tree):
        if isinstance(node, (ast.For, ast.comprehension)):
            yield node.iter
        elif isinstance(node, ast.Call) and node.args:
            if called_name(node) in WALKERS or called_name(node) == "join":
                yield node.args[0]
            if called_name(node) == "zip":
                yield from node.args


def where_sets_stand(tree):
    """The nodes that stand where L24 lets a set be made; sets with signs between are for the reader."""
    for node in ast.walk(tree):
        if isinstance(node, ast.Compare):
            yield node.left
            yield from node.comparators
        elif called_name(node) in ("sorted", "len") and not node.keywords:
            yield from node.args


class Form(unittest.TestCase):
    def test_files(self):
        self.assertTrue((PACKAGE / "__init__.py").is_file())
        for path in PACKAGE.rglob("*"):
            if "__pycache__" not in path.parts:
                self.assertRegex(path.name, r"^[a-z0-9_]+\.py$")
                self.assertNotIn(path.stem, dir(builtins))

    def test_signs_sizes_and_words(self):
        for path in files():
            lines = path.read_bytes().decode("ascii").split("\n")
            self.assertLessEqual(len(lines), 401, path.name)
            for line in lines:
                self.assertLessEqual(len(line), 120, path.name)
                self.assertRegex(line, r"^[ -~]*$", path.name)
                self.assertNotRegex(line, WORDS, path.name)

    def test_statements_and_expressions(self):
        for place, node in nodes():
            self.assertIsInstance(node, STATEMENTS + EXPRESSIONS, place)
            self.assertNotIsInstance(node, (ast.Div, ast.MatMult), place)
            if isinstance(node, (ast.For, ast.While)):
                self.assertEqual(node.orelse, [], place)
            if isinstance(node, ast.Assign):
                self.assertEqual(len(node.targets), 1, place)
            if isinstance(node, ast.Constant):
                self.assertIsInstance(node.value, (int, str, type(None)), place)

    def test_functions_and_classes(self):
        for place, node in nodes():
            if isinstance(node, (ast.FunctionDef, ast.ClassDef)):
                self.assertEqual(node.decorator_list, [], place)
            if isinstance(node, ast.FunctionDef):
                self.assertLessEqual(node.end_lineno - node.lineno + 1, 40, place)
                given = node.args
                self.assertFalse(given.vararg or given.kwarg or given.kwonlyargs or given.posonlyargs, place)
            if isinstance(node, ast.ClassDef):
                self.assertEqual(node.col_offset, 0, place)
                self.assertLessEqual(len(node.bases), 1, place)

    def test_imports_are_from_the_file_that_defines_the_name(self):
        defined = {f"manyjudges.{path.stem}": list(top_names(tree)) for path, tree in trees()}
        for place, node in nodes():
            if isinstance(node, ast.ImportFrom):
                self.assertEqual((node.level, node.col_offset), (0, 0), place)
                for drawn in node.names:
                    self.assertIn(drawn.name, defined.get(node.module, []), place)

    def test_no_two_files_draw_from_one_another(self):
        drawn = {f"manyjudges.{path.stem}": {row.module for row in imports_of(tree)} for path, tree in trees()}
        self.assertEqual(drawn["manyjudges.__init__"], set())
        free = set()
        while free != set(drawn):
            more = {module for module in drawn if module not in free and drawn[module] <= free}
            self.assertTrue(more, sorted(set(drawn) - free))
            free |= more

    def test_no_name_is_called_like_a_class_or_an_import(self):
        for path, tree in trees():
            taken = [drawn.name for row in imports_of(tree) for drawn in row.names]
            taken.extend(node.name for node in tree.body if isinstance(node, ast.ClassDef))
            bound = [bound_name(node) for node in ast.walk(tree) if not isinstance(node, ast.ClassDef)]
            self.assertEqual(set(taken) & set(bound), set(), path.name)

    def test_keywords(self):
        for place, node in nodes():
            if isinstance(node, ast.Call) and called_name(node) in BUILT_IN + METHODS:
                for given in node.keywords:
                    self.assertIn(given.arg, KEYWORDS.get(called_name(node), ()), place)

    def test_walked_at_once_and_sets(self):
        for path, tree in trees():
            walked, sets = list(walked_on_the_spot(tree)), list(where_sets_stand(tree))
            for node in ast.walk(tree):
                if called_name(node) in WALKED:
                    self.assertIn(node, walked, f"{path.name}:{node.lineno}")
                if isinstance(node, ast.Set) or called_name(node) in ("set", "frozenset"):
                    self.assertIn(node, sets, f"{path.name}:{node.lineno}")

    def test_comprehensions_have_one_for_and_at_most_one_if(self):
        for place, node in nodes():
            if isinstance(node, ast.ListComp):
                self.assertEqual(len(node.generators), 1, place)
                self.assertLessEqual(len(node.generators[0].ifs), 1, place)

    def test_each_name_once_at_the_top(self):
        for path, tree in trees():
            tops = list(top_names(tree))
            self.assertEqual(sorted(tops), sorted(set(tops)), path.name)

    def test_names(self):
        own_methods = [ast.dump(node) for path, tree in trees() for node in methods_of(tree)]
        for place, node in nodes():
            name = bound_name(node)
            if name is not None:
                self.assertNotIn(name, UNUSED, place)
                self.assertTrue(not name.startswith("_") or name in SPECIAL, place)
                if ast.dump(node) not in own_methods:
                    self.assertNotIn(name, dir(builtins), place)
            elif isinstance(node, ast.Name) and node.id in dir(builtins):
                self.assertIn(node.id, BUILT_IN, place)

    def test_methods(self):
        own = [node.name for path, tree in trees() for node in methods_of(tree) if isinstance(node, ast.FunctionDef)]
        for place, node in nodes():
            if isinstance(node, ast.Attribute):
                self.assertNotIn(node.attr, UNUSED, place)
            if isinstance(node, ast.Call) and isinstance(node.func, ast.Attribute):
                self.assertIn(node.func.attr, METHODS + own, place)

    def test_class_bodies(self):
        for path, tree in trees():
            for node in methods_of(tree):
                self.assertIsInstance(node, (ast.FunctionDef, ast.Pass), f"{path.name}:{node.lineno}")
            for node in [node for node in tree.body if isinstance(node, ast.ClassDef)]:
                named = [inner.name for inner in node.body if isinstance(inner, ast.FunctionDef)]
                self.assertEqual(len(named), len(set(named)), node.name)

    def test_values_of_objects(self):
        methods = [node.name for path, tree in trees() for node in methods_of(tree)
                   if isinstance(node, ast.FunctionDef)]
        for place, node in nodes():
            if isinstance(node, ast.Attribute) and isinstance(node.ctx, ast.Store):
                self.assertEqual(ast.unparse(node.value), "self", place)
                self.assertNotIn(node.attr, methods + NOT_AS_VALUES, place)

    def test_init_gives_back_nothing(self):
        for place, node in nodes():
            if isinstance(node, ast.FunctionDef) and node.name == "__init__":
                for inner in ast.walk(node):
                    self.assertFalse(isinstance(inner, ast.Return) and inner.value is not None, place)

    def test_a_class_is_only_called_a_base_or_raised(self):
        own = [node.name for path, tree in trees() for node in tree.body if isinstance(node, ast.ClassDef)]
        for path, tree in trees():
            called = [node.func for node in ast.walk(tree) if isinstance(node, ast.Call)]
            called.extend(base for node in ast.walk(tree) if isinstance(node, ast.ClassDef) for base in node.bases)
            called.extend(node.type for node in ast.walk(tree) if isinstance(node, ast.ExceptHandler))
            called.extend(node.args[1] for node in ast.walk(tree) if called_name(node) == "isinstance")
            for node in ast.walk(tree):
                if isinstance(node, ast.Name) and node.id in own:
                    self.assertIn(node, called, f"{path.name}:{node.lineno}")

    def test_texts(self):
        for place, node in nodes():
            if isinstance(node, ast.FormattedValue):
                self.assertIsInstance(node.value, ast.Name, place)
                self.assertIsNone(node.format_spec, place)
                self.assertIn(node.conversion, (-1, ord("r")), place)
            if isinstance(node, ast.Constant) and isinstance(node.value, str):
                self.assertNotIn("%", node.value, place)
                self.assertRegex(node.value, r"^[\n\t -~]*$", place)

    def test_errors(self):
        for place, node in nodes():
            if isinstance(node, ast.Raise):
                self.assertIsInstance(node.exc, ast.Call, place)
            # No file takes an error, so that what L19 says of it need not be looked at.
            self.assertNotIsInstance(node, ast.Try, place)

    def test_is_and_powers(self):
        for place, node in nodes():
            if isinstance(node, ast.Compare) and isinstance(node.ops[0], (ast.Is, ast.IsNot)):
                self.assertIn(ast.unparse(node.comparators[0]), ("None", "True", "False"), place)
            if isinstance(node, ast.BinOp) and isinstance(node.op, ast.Pow):
                self.assertIsInstance(node.right, ast.Constant, place)


if __name__ == "__main__":
    unittest.main()
