"""The package's own files keep to the rules of LANGUAGE.md that a walk over them can see."""

import ast
import builtins
import pathlib
import re
import unittest

PACKAGE = pathlib.Path(__file__).resolve().parent.parent / "stepfield"

NODES = (
    ast.Module, ast.ImportFrom, ast.alias, ast.FunctionDef, ast.ClassDef, ast.arguments, ast.arg, ast.Lambda,
    ast.Assign, ast.AugAssign, ast.If, ast.While, ast.For, ast.Return, ast.Break, ast.Continue, ast.Pass, ast.Raise,
    ast.Try, ast.ExceptHandler, ast.Expr, ast.Constant, ast.List, ast.Tuple, ast.Dict, ast.BinOp, ast.UnaryOp,
    ast.BoolOp, ast.Compare, ast.IfExp, ast.Call, ast.keyword, ast.Attribute, ast.Subscript, ast.Slice, ast.ListComp,
    ast.comprehension, ast.JoinedStr, ast.FormattedValue, ast.Name, ast.expr_context, ast.operator, ast.unaryop,
    ast.boolop, ast.cmpop,
)
OUTSIDE = (ast.Div, ast.MatMult)
OWN_NAMES = (
    "len range enumerate zip min max sum abs sorted reversed int str bool list tuple dict set frozenset isinstance "
    "ord repr any all divmod Exception ValueError TypeError KeyError IndexError LookupError ZeroDivisionError "
    "ArithmeticError OverflowError RuntimeError NotImplementedError StopIteration"
).split()
METHODS = (
    "append clear copy count endswith extend find get index insert isalnum isalpha isdigit islower isspace isupper "
    "items join keys ljust lower lstrip partition pop remove replace reverse rfind rjust rpartition rsplit rstrip "
    "setdefault split splitlines startswith strip update upper values zfill bit_length"
).split()
WORDS = (
    "type typing typing_extensions enum Enum IntEnum StrEnum Flag IntFlag Generic Protocol ABC ABCMeta namedtuple "
    "NamedTuple TypedDict TYPE_CHECKING abstractmethod register mro elements open input version_info with_traceback "
    "add_note"
).split()
WALKED = ("zip", "enumerate", "reversed", "range")
WALKERS = ("list", "tuple", "dict", "sorted", "sum", "any", "all", "enumerate", "zip", "min", "max")
DUNDERS = ("__init__", "__eq__", "__repr__", "__str__", "__len__")


def files():
    return sorted(path for path in PACKAGE.rglob("*") if "__pycache__" not in path.parts and path.is_file())


def nodes():
    for path in files():
        for node in ast.walk(ast.parse(path.read_text(encoding="ascii"))):
            yield f"{path.name}:{getattr(node, 'lineno', 0)}", node


def bound_names(node):
    if isinstance(node, (ast.FunctionDef, ast.ClassDef)):
        return [node.name]
    if isinstance(node, ast.arg):
        return [node.arg]
    if isinstance(node, ast.Name) and isinstance(node.ctx, ast.Store):
        return [node.id]
    if isinstance(node, ast.Attribute):
        return [node.attr]
    return []


def is_plain(node):
    if isinstance(node, (ast.List, ast.Tuple)):
        return all(is_plain(part) for part in node.elts)
    if isinstance(node, ast.Dict):
        return all(is_plain(part) for part in node.keys + node.values)
    if isinstance(node, ast.UnaryOp):
        return is_plain(node.operand)
    return isinstance(node, (ast.Constant, ast.Name))


def walked_on_the_spot(tree):
    for node in ast.walk(tree):
        if isinstance(node, (ast.For, ast.comprehension)):
            yield node.iter
        elif isinstance(node, ast.Call) and isinstance(node.func, ast.Name) and node.func.id in WALKERS:
            yield from node.args[:1]


def names_from_outside(tree):
    """The classes and the imports of a file."""
    names = [node.name for node in tree.body if isinstance(node, ast.ClassDef)]
    return names + [alias.name for node in tree.body if isinstance(node, ast.ImportFrom) for alias in node.names]


class LanguageTest(unittest.TestCase):
    def test_files(self):
        self.assertIn(PACKAGE / "__init__.py", files())
        for path in files():
            self.assertRegex(path.name, r"\A[a-z0-9_]+\.py\Z")
            text = path.read_bytes()
            self.assertTrue(all(sign == 10 or 32 <= sign <= 126 for sign in text), path.name)
            lines = text.decode("ascii").split("\n")
            self.assertLessEqual(len(lines), 400, path.name)
            self.assertLessEqual(max(len(line) for line in lines), 120, path.name)
            words = re.findall(r"\w+", text.decode("ascii"))
            self.assertEqual([word for word in words if word in WORDS], [], path.name)

    def test_the_top_of_a_file(self):
        for path in files():
            for place, node in enumerate(ast.parse(path.read_text()).body):
                with self.subTest(path=path.name, line=node.lineno):
                    if isinstance(node, ast.Assign):
                        self.assertTrue(is_plain(node.value))
                    elif isinstance(node, ast.Expr):
                        self.assertEqual(place, 0)
                    else:
                        self.assertIsInstance(node, (ast.ImportFrom, ast.FunctionDef, ast.ClassDef))

    def test_nodes(self):
        for where, node in nodes():
            with self.subTest(where=where):
                self.assertIsInstance(node, NODES)
                self.assertNotIsInstance(node, OUTSIDE)
                if isinstance(node, ast.Constant):
                    self.assertIn(type(node.value), (int, str, bool, type(None)))
                    self.assertNotIn("%", str(node.value))
                if isinstance(node, ast.BinOp) and isinstance(node.op, ast.Pow):
                    self.assertIn(getattr(node.right, "value", None), range(65))
                if isinstance(node, ast.ListComp):
                    self.assertEqual(len(node.generators), 1)
                if isinstance(node, ast.FunctionDef):
                    self.assertLessEqual(node.end_lineno - node.lineno + 1, 40)
                    self.assertEqual(node.decorator_list, [])
                if isinstance(node, ast.ImportFrom):
                    self.assertEqual(node.level, 0)
                    self.assertTrue(node.module.startswith("stepfield."))

    def test_names(self):
        for where, node in nodes():
            with self.subTest(where=where):
                for name in bound_names(node):
                    self.assertTrue(name in DUNDERS or not name.startswith("_"), name)
                    self.assertNotIn(name, dir(builtins) if not isinstance(node, ast.Attribute) else [])
                if isinstance(node, ast.Name) and hasattr(builtins, node.id):
                    self.assertIn(node.id, OWN_NAMES)

    def test_statements(self):
        for where, node in nodes():
            with self.subTest(where=where):
                if isinstance(node, ast.Assign):
                    self.assertEqual(len(node.targets), 1)
                    self.assertNotIsInstance(node.targets[0], (ast.Tuple, ast.List))
                if isinstance(node, (ast.For, ast.While)):
                    self.assertEqual(node.orelse, [])
                if isinstance(node, ast.Try):
                    self.assertEqual(node.finalbody, [])
                if isinstance(node, ast.Compare):
                    for sign, right in zip(node.ops, node.comparators):
                        if isinstance(sign, (ast.Is, ast.IsNot)):
                            self.assertIn(getattr(right, "value", 0), (None, True, False))
                if isinstance(node, ast.arguments):
                    self.assertEqual((node.vararg, node.kwarg, node.kwonlyargs, node.posonlyargs), (None, None, [], []))
                if isinstance(node, ast.arg):
                    self.assertIsNone(node.annotation)
                if isinstance(node, ast.comprehension):
                    self.assertLessEqual(len(node.ifs), 1)

    def test_what_is_walked_is_walked_on_the_spot(self):
        for path in files():
            tree = ast.parse(path.read_text())
            there = [id(node) for node in walked_on_the_spot(tree)]
            for node in ast.walk(tree):
                if isinstance(node, ast.Call) and isinstance(node.func, ast.Name) and node.func.id in WALKED:
                    with self.subTest(path=path.name, line=node.lineno):
                        self.assertIn(id(node), there)

    def test_no_local_is_called_like_a_class_or_an_import(self):
        for path in files():
            tree = ast.parse(path.read_text())
            outside = names_from_outside(tree)
            for node in ast.walk(tree):
                if isinstance(node, (ast.arg, ast.Name)):
                    for name in bound_names(node):
                        with self.subTest(path=path.name, line=node.lineno):
                            self.assertNotIn(name, outside)

    def test_imports_name_the_file_that_defines_and_go_in_no_round(self):
        drawn = {}
        for path in files():
            tree = ast.parse(path.read_text())
            rows = [node for node in tree.body if isinstance(node, ast.ImportFrom)]
            drawn[path.stem] = [row.module.split(".")[1] for row in rows]
            for row in rows:
                source = ast.parse((PACKAGE / f"{row.module.split('.')[1]}.py").read_text())
                defined = [node.name for node in source.body if isinstance(node, (ast.FunctionDef, ast.ClassDef))]
                for alias in row.names:
                    self.assertIn(alias.name, defined)
        while drawn:
            ends = [name for name in drawn if not any(other in drawn for other in drawn[name])]
            self.assertNotEqual(ends, [], drawn)
            for name in ends:
                del drawn[name]

    def test_methods(self):
        own = {node.name for _, node in nodes() if isinstance(node, ast.FunctionDef)}
        for where, node in nodes():
            if isinstance(node, ast.Call) and isinstance(node.func, ast.Attribute):
                with self.subTest(where=where):
                    self.assertTrue(node.func.attr in METHODS or node.func.attr in own, node.func.attr)


if __name__ == "__main__":
    unittest.main()
