"""The rules of the language that a walk through the package's files can see."""

import ast
import builtins
import pathlib
import re
import unittest

PACKAGE = pathlib.Path(__file__).resolve().parent.parent / "runpaint"
NODES = set("""
    Module FunctionDef ClassDef arguments arg Lambda ImportFrom alias Expr Pass Return Break Continue Raise Try
    ExceptHandler Assign AugAssign If While For IfExp Call keyword Attribute Subscript Slice Name Constant List
    Tuple Dict Set ListComp comprehension BinOp UnaryOp BoolOp Compare JoinedStr FormattedValue Load Store
    Add Sub Mult FloorDiv Mod Pow BitAnd BitOr BitXor LShift RShift Invert USub UAdd Not And Or
    Eq NotEq Lt LtE Gt GtE Is IsNot In NotIn
""".split())
BUILT_IN = set("""
    len range enumerate zip min max sum abs sorted reversed int str bool list tuple dict set frozenset isinstance
    ord repr any all divmod Exception ValueError TypeError KeyError IndexError LookupError ZeroDivisionError
    ArithmeticError OverflowError RuntimeError NotImplementedError StopIteration AttributeError
""".split())
METHODS = set("""
    append clear copy count endswith extend find get index insert isalnum isalpha isdigit islower isspace isupper
    items join keys ljust lower lstrip partition pop remove replace reverse rfind rjust rpartition rsplit rstrip
    setdefault split splitlines startswith strip update upper values zfill bit_length
""".split())
WORDS = re.compile(
    r"\b(type|typing|typing_extensions|enum|Enum|IntEnum|StrEnum|Flag|IntFlag|Generic|Protocol|ABC|ABCMeta"
    r"|namedtuple|NamedTuple|TypedDict|TYPE_CHECKING|abstractmethod)\b|dataclass|overload|contextmanager"
)
WALKED = ("zip", "enumerate", "reversed", "range")
WALKERS = ("list", "tuple", "dict", "sorted", "sum", "any", "all", "enumerate", "zip", "min", "max")
PYTHONS_OWN = tuple(dir(builtins))


def files():
    return sorted(PACKAGE.glob("*.py"))


def trees():
    return [(path.name, ast.parse(path.read_text(encoding="ascii"))) for path in files()]


def nodes(*kinds):
    return [(name, node) for name, tree in trees() for node in ast.walk(tree) if isinstance(node, kinds)]


class Language(unittest.TestCase):

    def test_files(self):
        """L1, L10, L14."""
        others = [path.name for path in PACKAGE.iterdir() if path not in files() and path.name != "__pycache__"]
        self.assertEqual(others, [])
        for path in files():
            text = path.read_bytes().decode("ascii")
            self.assertRegex(text, r"\A[\n -~]*\Z", path.name)
            self.assertLessEqual(len(text.splitlines()), 400, path.name)
            self.assertLessEqual(max(map(len, text.splitlines())), 120, path.name)

    def test_words(self):
        """L17."""
        for path in files():
            self.assertIsNone(WORDS.search(path.read_text()), path.name)

    def test_nodes(self):
        """L6, L7; a text by itself stands at a file's head alone."""
        for name, tree in trees():
            for node in ast.walk(tree):
                self.assertIn(node.__class__.__name__, NODES, name)
            for node in ast.walk(tree):
                if isinstance(node, ast.Expr) and node not in tree.body[:1]:
                    self.assertIsInstance(node.value, ast.Call, (name, node.lineno))
        for name, node in nodes(ast.Assign):
            self.assertEqual(len(node.targets), 1, (name, node.lineno))
        for name, node in nodes(ast.For, ast.While, ast.Try):
            self.assertEqual(getattr(node, "finalbody", []), [], (name, node.lineno))
            self.assertTrue(isinstance(node, ast.Try) or not node.orelse, (name, node.lineno))
        for name, node in nodes(ast.ListComp):
            self.assertEqual(len(node.generators), 1, (name, node.lineno))
            self.assertLessEqual(len(node.generators[0].ifs), 1, (name, node.lineno))

    def test_imports(self):
        """L2, L16."""
        for name, node in nodes(ast.ImportFrom):
            self.assertRegex(node.module, r"\Arunpaint\.[a-z_]+\Z", name)
            self.assertEqual(node.level, 0, name)
            self.assertNotIn("*", [alias.name for alias in node.names], name)

    def test_each_name_is_drawn_from_the_file_that_defines_it(self):
        """L16: and no two files draw from one another."""
        defined = {
            f"runpaint.{name[:-3]}": [part.name for part in tree.body if isinstance(part, (ast.FunctionDef, ast.ClassDef))]
            for name, tree in trees()
        }
        drawn = {f"runpaint.{name[:-3]}": [] for name, _ in trees()}
        for name, node in nodes(ast.ImportFrom):
            for alias in node.names:
                self.assertIn(alias.name, defined[node.module], name)
            drawn[f"runpaint.{name[:-3]}"].append(node.module)
        while drawn:
            free = [name for name, others in drawn.items() if not set(others) & set(drawn)]
            self.assertTrue(free, drawn)
            drawn = {name: others for name, others in drawn.items() if name not in free}

    def test_no_name_is_a_method_here_and_a_value_there(self):
        """L18."""
        methods = [part.name for _, node in nodes(ast.ClassDef) for part in node.body if isinstance(part, ast.FunctionDef)]
        for name, node in nodes(ast.Attribute):
            if isinstance(node.ctx, ast.Store):
                self.assertNotIn(node.attr, methods, (name, node.lineno))

    def test_functions(self):
        """L4, L10, L21."""
        for name, node in nodes(ast.FunctionDef):
            self.assertLessEqual(node.end_lineno - node.lineno + 1, 40, (name, node.name))
            self.assertEqual(node.decorator_list, [], (name, node.name))
            self.assertIsNone(node.args.vararg or node.args.kwarg, (name, node.name))
            self.assertEqual(node.args.kwonlyargs + node.args.posonlyargs, [], (name, node.name))

    def test_classes(self):
        """L5."""
        for name, node in nodes(ast.ClassDef):
            self.assertLessEqual(len(node.bases), 1, (name, node.name))
            for part in node.body:
                self.assertIsInstance(part, (ast.FunctionDef, ast.Pass), (name, node.name))

    def test_names(self):
        """L8, L12, L15."""
        for name, node in nodes(ast.Name):
            self.assertRegex(node.id, r"\A[A-Za-z]\w*\Z", (name, node.lineno))
            if node.id in PYTHONS_OWN:
                self.assertIn(node.id, BUILT_IN, (name, node.lineno))
                self.assertIsInstance(node.ctx, ast.Load, (name, node.lineno))
        for name, node in nodes(ast.arg):
            self.assertNotIn(node.arg, PYTHONS_OWN, (name, node.lineno))

    def test_no_local_is_called_like_a_class_or_an_import(self):
        """L15."""
        for name, tree in trees():
            taken = [node.name for node in tree.body if isinstance(node, ast.ClassDef)]
            for node in tree.body:
                taken += [alias.name for alias in node.names] if isinstance(node, ast.ImportFrom) else []
            for node in ast.walk(tree):
                if isinstance(node, ast.arg):
                    self.assertNotIn(node.arg, taken, (name, node.lineno))
                if isinstance(node, ast.Name) and isinstance(node.ctx, ast.Store):
                    self.assertNotIn(node.id, taken, (name, node.lineno))

    def test_methods(self):
        """L25: what is called is one of Python's that are listed, or the program's own."""
        own = {node.name for _, node in nodes(ast.FunctionDef)}
        for name, node in nodes(ast.Call):
            if isinstance(node.func, ast.Attribute):
                self.assertIn(node.func.attr, METHODS | own, (name, node.lineno))

    def test_walked_at_once(self):
        """L23."""
        for name, tree in trees():
            good = []
            for node in ast.walk(tree):
                if isinstance(node, (ast.For, ast.comprehension)):
                    good.append(node.iter)
                if isinstance(node, ast.Call) and isinstance(node.func, ast.Name) and node.func.id in WALKERS:
                    good.extend(node.args[:1])
            for node in ast.walk(tree):
                if isinstance(node, ast.Call) and isinstance(node.func, ast.Name) and node.func.id in WALKED:
                    self.assertIn(node, good, (name, node.lineno))

    def test_is_stands_beside_none_true_false(self):
        """L20."""
        for name, node in nodes(ast.Compare):
            for sign, right in zip(node.ops, node.comparators):
                if isinstance(sign, (ast.Is, ast.IsNot)):
                    self.assertIsInstance(right, ast.Constant, (name, node.lineno))
                    self.assertIn(repr(right.value), ("None", "True", "False"), (name, node.lineno))

    def test_texts_and_numbers(self):
        """L7, L27."""
        for name, node in nodes(ast.Constant):
            self.assertIn(node.value.__class__.__name__, ("int", "str", "bool", "NoneType"), (name, node.lineno))
            if isinstance(node.value, str):
                self.assertNotIn(chr(37), node.value, (name, node.lineno))
        for name, node in nodes(ast.BinOp):
            if isinstance(node.op, ast.Pow):
                self.assertIsInstance(node.right, ast.Constant, (name, node.lineno))
                self.assertIn(node.right.value, range(65), (name, node.lineno))


if __name__ == "__main__":
    unittest.main()
