"""The form of the package, as far as a short look can check it: most of L1 to L17, L20, L25 and L27.

A pass here doesn't show that every rule holds; the rest is for the reader.
"""

import ast
import builtins
import pathlib
import re
import unittest

PACKAGE = pathlib.Path(__file__).resolve().parent.parent / "manyjudges"

STATEMENTS = (
    ast.Module, ast.ImportFrom, ast.alias, ast.FunctionDef, ast.arguments, ast.arg, ast.ClassDef, ast.Assign,
    ast.AugAssign, ast.If, ast.While, ast.For, ast.Return, ast.Break, ast.Continue, ast.Pass, ast.Raise, ast.Try,
    ast.ExceptHandler, ast.Expr,
)
EXPRESSIONS = (
    ast.Constant, ast.Name, ast.List, ast.Tuple, ast.Dict, ast.Set, ast.BinOp, ast.UnaryOp, ast.BoolOp, ast.Compare,
    ast.IfExp, ast.Call, ast.keyword, ast.Attribute, ast.Subscript, ast.Slice, ast.ListComp, ast.comprehension,
    ast.JoinedStr, ast.FormattedValue, ast.Lambda, ast.expr_context, ast.boolop, ast.operator, ast.unaryop, ast.cmpop,
)
BUILT_IN = """
    len range enumerate zip min max sum abs sorted reversed int str bool list tuple dict set frozenset isinstance ord
    repr any all divmod Exception ValueError TypeError KeyError IndexError LookupError ZeroDivisionError
    ArithmeticError OverflowError RuntimeError NotImplementedError AttributeError StopIteration
""".split()
METHODS = """
    append clear copy count endswith extend find get index insert isalnum isalpha isdigit islower isspace isupper
    items join keys ljust lower lstrip partition pop remove replace reverse rfind rjust rpartition rsplit rstrip
    setdefault split splitlines startswith strip update upper values zfill bit_length
""".split()
SPECIAL = ("__init__", "__eq__", "__repr__", "__str__", "__len__")
WORDS = re.compile(
    r"\b(type|typing|typing_extensions|enum|Enum|IntEnum|StrEnum|Flag|IntFlag|Generic|Protocol|ABC|ABCMeta"
    r"|namedtuple|NamedTuple|TypedDict|TYPE_CHECKING|abstractmethod)\b|dataclass|overload|contextmanager"
)
UNUSED = "register mro elements open input version_info with_traceback add_note format format_map".split()


def files():
    return sorted(PACKAGE.rglob("*.py"))


def trees():
    return [(path, ast.parse(path.read_text(encoding="ascii"))) for path in files()]


def nodes():
    for path, tree in trees():
        for node in ast.walk(tree):
            yield f"{path.name}:{getattr(node, 'lineno', 1)}", node


def top_names(tree):
    for node in tree.body:
        if isinstance(node, (ast.FunctionDef, ast.ClassDef)):
            yield node.name
        elif isinstance(node, ast.Assign):
            yield node.targets[0].id


def methods_of(tree):
    for node in tree.body:
        if isinstance(node, ast.ClassDef):
            for inner in node.body:
                yield inner


def bound_name(node):
    if isinstance(node, (ast.FunctionDef, ast.ClassDef)):
        return node.name
    if isinstance(node, ast.arg):
        return node.arg
    if isinstance(node, ast.Name) and isinstance(node.ctx, ast.Store):
        return node.id
    return None


class Form(unittest.TestCase):
    def test_files(self):
        self.assertTrue((PACKAGE / "__init__.py").is_file())
        for path in PACKAGE.rglob("*"):
            if "__pycache__" not in path.parts:
                self.assertRegex(path.name, r"^[a-z0-9_]+\.py$")
                self.assertNotIn(path.stem, dir(builtins))

    def test_signs_sizes_and_words(self):
        for path in files():
            lines = path.read_bytes().decode("ascii").split("\n")
            self.assertLessEqual(len(lines), 401, path.name)
            for line in lines:
                self.assertLessEqual(len(line), 120, path.name)
                self.assertRegex(line, r"^[ -~]*$", path.name)
                self.assertNotRegex(line, WORDS, path.name)

    def test_statements_and_expressions(self):
        for place, node in nodes():
            self.assertIsInstance(node, STATEMENTS + EXPRESSIONS, place)
            self.assertNotIsInstance(node, (ast.Div, ast.MatMult), place)
            if isinstance(node, (ast.For, ast.While)):
                self.assertEqual(node.orelse, [], place)
            if isinstance(node, ast.Assign):
                self.assertEqual(len(node.targets), 1, place)
            if isinstance(node, ast.Constant):
                self.assertIsInstance(node.value, (int, str, type(None)), place)

    def test_functions_and_classes(self):
        for place, node in nodes():
            if isinstance(node, (ast.FunctionDef, ast.ClassDef)):
                self.assertEqual(node.decorator_list, [], place)
            if isinstance(node, ast.FunctionDef):
                self.assertLessEqual(node.end_lineno - node.lineno + 1, 40, place)
                given = node.args
                self.assertFalse(given.vararg or given.kwarg or given.kwonlyargs or given.posonlyargs, place)
            if isinstance(node, ast.ClassDef):
                self.assertEqual(node.col_offset, 0, place)
                self.assertLessEqual(len(node.bases), 1, place)

    def test_imports_are_from_the_file_that_defines_the_name(self):
        defined = {f"manyjudges.{path.stem}": list(top_names(tree)) for path, tree in trees()}
        for place, node in nodes():
            if isinstance(node, ast.ImportFrom):
                self.assertEqual((node.level, node.col_offset), (0, 0), place)
                for drawn in node.names:
                    self.assertIn(drawn.name, defined.get(node.module, []), place)

    def test_each_name_once_at_the_top(self):
        for path, tree in trees():
            tops = list(top_names(tree))
            self.assertEqual(sorted(tops), sorted(set(tops)), path.name)

    def test_names(self):
        own_methods = [ast.dump(node) for path, tree in trees() for node in methods_of(tree)]
        for place, node in nodes():
            name = bound_name(node)
            if name is not None:
                self.assertNotIn(name, UNUSED, place)
                self.assertTrue(not name.startswith("_") or name in SPECIAL, place)
                if ast.dump(node) not in own_methods:
                    self.assertNotIn(name, dir(builtins), place)
            elif isinstance(node, ast.Name) and node.id in dir(builtins):
                self.assertIn(node.id, BUILT_IN, place)

    def test_methods(self):
        own = [node.name for path, tree in trees() for node in methods_of(tree) if isinstance(node, ast.FunctionDef)]
        for place, node in nodes():
            if isinstance(node, ast.Attribute):
                self.assertNotIn(node.attr, UNUSED, place)
            if isinstance(node, ast.Call) and isinstance(node.func, ast.Attribute):
                self.assertIn(node.func.attr, METHODS + own, place)

    def test_is_and_powers(self):
        for place, node in nodes():
            if isinstance(node, ast.Compare) and isinstance(node.ops[0], (ast.Is, ast.IsNot)):
                self.assertIn(ast.unparse(node.comparators[0]), ("None", "True", "False"), place)
            if isinstance(node, ast.BinOp) and isinstance(node.op, ast.Pow):
                self.assertIsInstance(node.right, ast.Constant, place)


if __name__ == "__main__":
    unittest.main()
