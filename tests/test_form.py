"""The rules of LANGUAGE.md that a walk over the package's files can see."""

import ast
import builtins
import re
import unittest
from pathlib import Path

PACKAGE = Path(__file__).resolve().parent.parent / "evenhub"

STATEMENTS = (
    ast.FunctionDef, ast.ClassDef, ast.ImportFrom, ast.Assign, ast.AugAssign, ast.If, ast.While, ast.For,
    ast.Return, ast.Break, ast.Continue, ast.Pass, ast.Raise, ast.Try, ast.Expr,
)
EXPRESSIONS = (
    ast.Constant, ast.Name, ast.List, ast.Tuple, ast.Dict, ast.BinOp, ast.UnaryOp, ast.BoolOp, ast.Compare,
    ast.IfExp, ast.Call, ast.Attribute, ast.Subscript, ast.Slice, ast.ListComp, ast.JoinedStr, ast.FormattedValue,
    ast.Lambda, ast.Set,
)
OWN_NAMES = (
    "len range enumerate zip min max sum abs sorted reversed int str bool list tuple dict set frozenset isinstance "
    "ord repr any all divmod Exception ValueError TypeError KeyError IndexError LookupError ZeroDivisionError "
    "ArithmeticError OverflowError RuntimeError NotImplementedError AttributeError StopIteration"
).split()
SPECIAL_METHODS = ("__init__", "__eq__", "__repr__", "__str__", "__len__")
METHODS = (
    "append clear copy count endswith extend find get index insert isalnum isalpha isdigit islower isspace isupper "
    "items join keys ljust lower lstrip partition pop remove replace reverse rfind rjust rpartition rsplit rstrip "
    "setdefault split splitlines startswith strip update upper values zfill bit_length"
).split()
WALKED_AT_ONCE = ("zip", "enumerate", "reversed", "range")
WALKERS = ("list", "tuple", "dict", "sorted", "sum", "any", "all", "enumerate", "zip", "min", "max")
KEYWORDS = {
    "sorted": ("key", "reverse"), "min": ("key", "default"), "max": ("key", "default"), "sum": ("start",),
    "enumerate": ("start",), "zip": ("strict",),
}
VALUES_LIKE_PYTHONS = "count index title find get join lower upper split strip copy add".split()
WORDS_LEFT_OUT = (
    r"\b(type|typing|typing_extensions|enum|Enum|IntEnum|StrEnum|Flag|IntFlag|Generic|Protocol|ABC|ABCMeta|"
    r"namedtuple|NamedTuple|TypedDict|TYPE_CHECKING|abstractmethod)\b|dataclass|overload|contextmanager"
)


def package_files():
    return sorted(PACKAGE.glob("*.py"))


def each_node():
    for path in package_files():
        for node in ast.walk(ast.parse(path.read_text(encoding="utf-8"))):
            yield f"{path.name}, line {getattr(node, 'lineno', 0)}", node


def bound_names(node):
    if isinstance(node, ast.Name) and isinstance(node.ctx, ast.Store):
        return [node.id]
    if isinstance(node, (ast.FunctionDef, ast.ClassDef)):
        return [node.name]
    if isinstance(node, ast.arg):
        return [node.arg]
    if isinstance(node, ast.ExceptHandler) and node.name:
        return [node.name]
    if isinstance(node, ast.alias):
        return [node.asname or node.name]
    return []


def top_names(node):
    if isinstance(node, ast.Assign):
        return [target.id for target in node.targets]
    return bound_names(node)


def drawn_from(path):
    tree = ast.parse(path.read_text(encoding="utf-8"))
    return [node.module for node in ast.walk(tree) if isinstance(node, ast.ImportFrom)]


def walked_calls(tree):
    # The calls that stand behind the `in` of a walk, or as the first thing in a call that walks them at once.
    found = []
    for node in ast.walk(tree):
        if isinstance(node, (ast.For, ast.comprehension)):
            found.append(node.iter)
        if isinstance(node, ast.Call) and isinstance(node.func, ast.Name) and node.func.id in WALKERS:
            found.extend(node.args if node.func.id == "zip" else node.args[:1])
    return found


def is_call_of(node, names):
    return isinstance(node, ast.Call) and isinstance(node.func, ast.Name) and node.func.id in names


def own_names(tree):
    # What a file's defs may not call a parameter or a local: its classes and imports.
    imports = [alias.name for node in tree.body if isinstance(node, ast.ImportFrom) for alias in node.names]
    return imports + [node.name for node in tree.body if isinstance(node, ast.ClassDef)]


class Form(unittest.TestCase):
    def test_l1_l14_files_and_signs(self):
        self.assertIn(PACKAGE / "__init__.py", package_files())
        for path in PACKAGE.rglob("*"):
            if "__pycache__" not in path.parts and path.is_file():
                with self.subTest(file=path.name):
                    self.assertRegex(path.name, r"^([a-z][a-z0-9_]*|__init__|__main__)\.py$")
                    self.assertRegex(path.read_bytes(), rb"^[ -~\n]*\Z")

    def test_l2_l16_imports(self):
        for where, node in each_node():
            self.assertNotIsInstance(node, ast.Import, where)
            if isinstance(node, ast.ImportFrom):
                self.assertEqual(node.level, 0, where)
                self.assertRegex(node.module, r"^evenhub\.[a-z]", where)
                self.assertNotIn("*", [alias.name for alias in node.names], where)

    def test_l16_no_two_files_draw_from_one_another(self):
        left = {f"evenhub.{path.stem}": drawn_from(path) for path in package_files()}
        while left:
            free = [name for name, modules in left.items() if not any(module in left for module in modules)]
            self.assertNotEqual(free, [], sorted(left))
            for name in free:
                del left[name]

    def test_l16_a_name_is_drawn_from_the_file_that_defines_it(self):
        for path in package_files():
            tree = ast.parse(path.read_text(encoding="utf-8"))
            for node in [node for node in tree.body if isinstance(node, ast.ImportFrom)]:
                source = PACKAGE / f"{node.module.split('.')[1]}.py"
                body = ast.parse(source.read_text(encoding="utf-8")).body
                defined = [name for inner in body if not isinstance(inner, ast.ImportFrom)
                           for name in top_names(inner)]
                for alias in node.names:
                    self.assertIn(alias.name, defined, path.name)

    def test_l15_no_parameter_or_local_is_called_like_a_class_or_an_import(self):
        for path in package_files():
            tree = ast.parse(path.read_text(encoding="utf-8"))
            for outer in [node for node in ast.walk(tree) if isinstance(node, ast.FunctionDef)]:
                bound = [name for node in ast.walk(outer) if node is not outer for name in bound_names(node)]
                self.assertEqual([name for name in bound if name in own_names(tree)], [], f"{path.name}, {outer.name}")

    def test_l25_methods(self):
        defined = [node.name for where, node in each_node() if isinstance(node, ast.FunctionDef)]
        for where, node in each_node():
            if isinstance(node, ast.Call) and isinstance(node.func, ast.Attribute):
                self.assertIn(node.func.attr, METHODS + defined, where)

    def test_l4_l5_functions_and_classes(self):
        for where, node in each_node():
            if isinstance(node, ast.FunctionDef):
                self.assertEqual(node.decorator_list, [], where)
                self.assertIsNone(node.args.vararg, where)
                self.assertIsNone(node.args.kwarg, where)
                self.assertEqual(node.args.kwonlyargs + node.args.posonlyargs, [], where)
            if isinstance(node, ast.ClassDef):
                self.assertEqual(node.decorator_list + node.keywords, [], where)
                self.assertLessEqual(len(node.bases), 1, where)
                for inner in node.body:
                    self.assertIsInstance(inner, (ast.FunctionDef, ast.Pass), where)

    def test_l6_l7_statements_and_expressions(self):
        for where, node in each_node():
            if isinstance(node, ast.stmt):
                self.assertIsInstance(node, STATEMENTS, where)
            if isinstance(node, ast.expr):
                self.assertIsInstance(node, EXPRESSIONS, where)
            if isinstance(node, ast.Assign):
                self.assertEqual(len(node.targets), 1, where)
            if isinstance(node, (ast.For, ast.While)):
                self.assertEqual(node.orelse, [], where)
            if isinstance(node, ast.Try):
                self.assertEqual(node.finalbody, [], where)
            if isinstance(node, (ast.BinOp, ast.AugAssign)):
                self.assertNotIsInstance(node.op, (ast.Div, ast.MatMult), where)
            if isinstance(node, ast.Constant):
                self.assertIn(type(node.value), (int, str, bool, type(None)), where)

    def test_l6_an_expression_by_itself_is_a_call(self):
        for path in package_files():
            tree = ast.parse(path.read_text(encoding="utf-8"))
            for node in ast.walk(tree):
                if isinstance(node, ast.Expr) and node != tree.body[0]:
                    with self.subTest(file=path.name, line=node.lineno):
                        self.assertIsInstance(node.value, ast.Call)

    def test_l8_l12_l15_names(self):
        for where, node in each_node():
            if isinstance(node, ast.Name) and isinstance(node.ctx, ast.Load) and hasattr(builtins, node.id):
                self.assertIn(node.id, OWN_NAMES, where)
            for name in bound_names(node):
                if name not in SPECIAL_METHODS:
                    self.assertFalse(hasattr(builtins, name), f"{where}: {name}")
                    self.assertRegex(name, r"^[A-Za-z][A-Za-z0-9_]*$", where)

    def test_l10_size(self):
        for path in package_files():
            lines = path.read_text(encoding="utf-8").split("\n")
            self.assertLessEqual(len(lines), 400, path.name)
            self.assertLessEqual(max(len(line) for line in lines), 120, path.name)
        for where, node in each_node():
            if isinstance(node, ast.FunctionDef):
                self.assertLessEqual(node.end_lineno - node.lineno + 1, 40, where)

    def test_l17_words_left_out(self):
        for path in package_files():
            self.assertIsNone(re.search(WORDS_LEFT_OUT, path.read_text(encoding="utf-8")), path.name)

    def test_l20_is_stands_beside_none_true_and_false(self):
        for where, node in each_node():
            if isinstance(node, ast.Compare) and isinstance(node.ops[0], (ast.Is, ast.IsNot)):
                self.assertIsInstance(node.comparators[0], ast.Constant, where)
                self.assertIn(node.comparators[0].value, (None, True, False), where)

    def test_l7_one_for_and_at_most_one_if(self):
        for where, node in each_node():
            if isinstance(node, ast.ListComp):
                self.assertEqual(len(node.generators), 1, where)
                self.assertLessEqual(len(node.generators[0].ifs), 1, where)

    def test_l18_l26_methods_and_values_of_objects(self):
        methods, values = [], []
        for where, node in each_node():
            if isinstance(node, ast.ClassDef):
                methods.extend(inner.name for inner in node.body if isinstance(inner, ast.FunctionDef))
            if isinstance(node, ast.Attribute) and isinstance(node.ctx, ast.Store):
                values.append(node.attr)
        self.assertEqual([name for name in values if name in methods], [])
        for name in values:
            for kind in (str, int, list, tuple, dict, set, bytes):
                self.assertTrue(name in VALUES_LIKE_PYTHONS or not hasattr(kind, name), name)

    def test_l22_keywords(self):
        for where, node in each_node():
            if isinstance(node, ast.Call) and isinstance(node.func, ast.Name) and hasattr(builtins, node.func.id):
                for keyword in node.keywords:
                    self.assertIn(keyword.arg, KEYWORDS.get(node.func.id, ()), where)

    def test_l23_walked_at_once(self):
        for path in package_files():
            tree = ast.parse(path.read_text(encoding="utf-8"))
            walked = walked_calls(tree)
            for node in ast.walk(tree):
                if is_call_of(node, WALKED_AT_ONCE):
                    self.assertIn(node, walked, f"{path.name}, line {node.lineno}")

    def test_l27_a_written_exponent(self):
        for where, node in each_node():
            if isinstance(node, ast.BinOp) and isinstance(node.op, ast.Pow):
                self.assertIsInstance(node.right, ast.Constant, where)
                self.assertIn(node.right.value, range(65), where)

    def test_l28_the_methods_with_two_underscores(self):
        for where, node in each_node():
            if isinstance(node, ast.FunctionDef) and node.name == "__init__":
                self.assertFalse(any(isinstance(inner, ast.Return) for inner in ast.walk(node)), where)

    def test_l27_no_percent_sign_within_a_text(self):
        for where, node in each_node():
            if isinstance(node, ast.Constant) and isinstance(node.value, str):
                self.assertNotIn("%", node.value, where)


if __name__ == "__main__":
    unittest.main()
