"""The rules of ../shared/LANGUAGE.md that can be seen in a file by itself."""

import ast
import builtins
import pathlib
import re
import unittest

PACKAGE = pathlib.Path(__file__).resolve().parent.parent / "ringbook"

STATEMENTS = """Module Expr Assign AugAssign If While For Return Break Continue Pass Raise Try ExceptHandler
    FunctionDef ClassDef ImportFrom alias arguments arg""".split()
EXPRESSIONS = """Constant Name Load Store List Tuple Dict BinOp UnaryOp BoolOp Compare IfExp Call keyword Attribute
    Subscript Slice ListComp comprehension JoinedStr FormattedValue Lambda And Or Not USub UAdd Invert
    Add Sub Mult FloorDiv Mod Pow LShift RShift BitAnd BitOr BitXor
    Eq NotEq Lt LtE Gt GtE Is IsNot In NotIn""".split()
OWN_NAMES = """len range enumerate zip min max sum abs sorted reversed int str bool list tuple dict set frozenset
    isinstance ord repr any all divmod Exception ValueError TypeError KeyError IndexError LookupError
    ZeroDivisionError ArithmeticError OverflowError RuntimeError NotImplementedError AttributeError
    StopIteration""".split()
BANNED_WORDS = """type typing typing_extensions enum Enum IntEnum StrEnum Flag IntFlag Generic Protocol ABC ABCMeta
    namedtuple NamedTuple TypedDict TYPE_CHECKING abstractmethod""".split()
METHODS_OF_PYTHON = """append clear copy count endswith extend find get index insert isalnum isalpha isdigit islower
    isspace isupper items join keys ljust lower lstrip partition pop remove replace reverse rfind rjust rpartition
    rsplit rstrip setdefault split splitlines startswith strip update upper values zfill bit_length""".split()
METHODS_WITH_UNDERSCORES = ["__init__", "__eq__", "__repr__", "__str__", "__len__"]


def package_files():
    return sorted(path for path in PACKAGE.rglob("*") if "__pycache__" not in path.parts)


def file_texts():
    return [path.read_text(encoding="utf-8") for path in package_files()]


def all_nodes():
    return [node for text in file_texts() for node in ast.walk(ast.parse(text))]


def own_methods():
    classes = [node for node in all_nodes() if isinstance(node, ast.ClassDef)]
    return [one.name for node in classes for one in node.body if isinstance(one, ast.FunctionDef)]


def bound_names(node):
    """The names that a node gives a meaning to."""
    if isinstance(node, ast.Name) and isinstance(node.ctx, ast.Store):
        return [node.id]
    if isinstance(node, (ast.FunctionDef, ast.ClassDef)):
        return [node.name]
    if isinstance(node, ast.arg):
        return [node.arg]
    if isinstance(node, ast.Attribute) and isinstance(node.ctx, ast.Store):
        return [node.attr]
    return []


class LanguageTest(unittest.TestCase):
    def test_files(self):
        for path in package_files():
            self.assertRegex(path.name, r"\A([a-z][a-z0-9_]*|__init__|__main__)\.py\Z")

    def test_signs_and_sizes(self):
        for text in file_texts():
            self.assertRegex(text, r"\A[ -~\n]*\Z")
            lines = text.split("\n")
            self.assertLessEqual(len(lines), 400)
            self.assertLessEqual(max(len(line) for line in lines), 120)

    def test_words(self):
        for text in file_texts():
            self.assertEqual([word for word in re.findall(r"\w+", text) if word in BANNED_WORDS], [])

    def test_nodes(self):
        for node in all_nodes():
            self.assertIn(node.__class__.__name__, STATEMENTS + EXPRESSIONS)

    def test_imports(self):
        for node in all_nodes():
            if isinstance(node, ast.ImportFrom):
                self.assertEqual(node.level, 0)
                self.assertRegex(node.module, r"\Aringbook\.[a-z_]+\Z")
                self.assertNotIn("*", [one.name for one in node.names])

    def test_functions(self):
        for node in all_nodes():
            if isinstance(node, ast.FunctionDef):
                self.assertLessEqual(node.end_lineno - node.lineno + 1, 40)
                self.assertEqual(node.decorator_list, [])
                plain = node.args
                self.assertEqual((plain.vararg, plain.kwarg, plain.kwonlyargs, plain.posonlyargs), (None, None, [], []))

    def test_names(self):
        for node in all_nodes():
            for name in bound_names(node):
                if name not in METHODS_WITH_UNDERSCORES:
                    self.assertRegex(name, r"\A[A-Za-z][A-Za-z0-9_]*\Z")
                if not isinstance(node, (ast.Attribute, ast.FunctionDef)):
                    self.assertFalse(hasattr(builtins, name), name)

    def test_own_names_of_python(self):
        for node in all_nodes():
            if isinstance(node, ast.Name) and hasattr(builtins, node.id):
                self.assertIn(node.id, OWN_NAMES)

    def test_constants(self):
        for node in all_nodes():
            if isinstance(node, ast.Constant):
                self.assertIsInstance(node.value, (int, str, type(None)))
                self.assertNotIn("%", str(node.value))

    def test_one_target_in_an_assignment(self):
        for node in all_nodes():
            if isinstance(node, ast.Assign):
                self.assertEqual(len(node.targets), 1)
                self.assertNotIsInstance(node.targets[0], ast.Tuple)

    def test_comprehensions(self):
        for node in all_nodes():
            if isinstance(node, ast.ListComp):
                self.assertEqual(len(node.generators), 1)
                self.assertLessEqual(len(node.generators[0].ifs), 1)

    def test_is_stands_beside_none_true_and_false(self):
        for node in all_nodes():
            if isinstance(node, ast.Compare) and isinstance(node.ops[0], (ast.Is, ast.IsNot)):
                self.assertEqual(len(node.ops), 1)
                self.assertIn(ast.unparse(node.comparators[0]), ["None", "True", "False"])

    def test_exponents_are_written(self):
        for node in all_nodes():
            if isinstance(node, ast.BinOp) and isinstance(node.op, ast.Pow):
                self.assertIsInstance(node.right, ast.Constant)
                self.assertIn(node.right.value, range(65))

    def test_methods(self):
        own = own_methods()
        for node in all_nodes():
            if isinstance(node, ast.Call) and isinstance(node.func, ast.Attribute):
                self.assertIn(node.func.attr, METHODS_OF_PYTHON + own)

    def test_no_name_is_a_method_and_a_value(self):
        values = [node for node in all_nodes() if isinstance(node, ast.Attribute)]
        stored = [node.attr for node in values if isinstance(node.ctx, ast.Store)]
        self.assertEqual(sorted(set(stored) & set(own_methods())), [])

    def test_locals_are_not_called_like_imports_or_classes(self):
        for text in file_texts():
            nodes = list(ast.walk(ast.parse(text)))
            taken = [one.name for node in nodes if isinstance(node, ast.ImportFrom) for one in node.names]
            taken += [node.name for node in nodes if isinstance(node, ast.ClassDef)]
            local = [name for node in nodes if isinstance(node, (ast.Name, ast.arg)) for name in bound_names(node)]
            self.assertEqual(sorted(set(taken) & set(local)), [])

    def test_no_two_files_draw_from_one_another(self):
        drawn = {}
        for path in package_files():
            nodes = ast.walk(ast.parse(path.read_text(encoding="utf-8")))
            drawn[path.stem] = {node.module.split(".")[1] for node in nodes if isinstance(node, ast.ImportFrom)}
        while drawn:
            free = [name for name in drawn if not drawn[name] & set(drawn)]
            self.assertNotEqual(free, [], drawn)
            drawn = {name: drawn[name] for name in drawn if name not in free}


if __name__ == "__main__":
    unittest.main()
