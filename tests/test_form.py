"""The form of the package's code: the small part of Python that it keeps to, as far as a reader of trees can see."""

import ast
import builtins
import pathlib
import re
import unittest

PACKAGE = pathlib.Path(__file__).resolve().parent.parent / "bitferry"
NODES = """Module FunctionDef ClassDef Return Assign AugAssign For While If Raise Try ExceptHandler ImportFrom alias Expr
Pass Break Continue BoolOp And Or BinOp Add Sub Mult FloorDiv Mod Pow LShift RShift BitOr BitXor BitAnd UnaryOp Invert Not
UAdd USub Lambda IfExp Dict Set ListComp comprehension Compare Eq NotEq Lt LtE Gt GtE Is IsNot In NotIn Call keyword
FormattedValue JoinedStr Constant Attribute Subscript Slice Name Load Store List Tuple arguments arg""".split()
OWN_NAMES = """len range enumerate zip min max sum abs sorted reversed int str bool list tuple dict set frozenset isinstance
ord repr any all divmod Exception ValueError TypeError KeyError IndexError LookupError ZeroDivisionError ArithmeticError
OverflowError RuntimeError NotImplementedError AttributeError StopIteration""".split()
METHODS = """append clear copy count endswith extend find get index insert isalnum isalpha isdigit islower isspace isupper
items join keys ljust lower lstrip partition pop remove replace reverse rfind rjust rpartition rsplit rstrip setdefault
split splitlines startswith strip update upper values zfill bit_length""".split()
DUNDERS = ("__init__", "__eq__", "__repr__", "__str__", "__len__")
WORDS_NOT_USED = """type typing typing_extensions enum Enum IntEnum StrEnum Flag IntFlag Generic Protocol ABC ABCMeta
namedtuple NamedTuple TypedDict TYPE_CHECKING abstractmethod""".split()
NAMES_NOT_USED = """register mro elements open input version_info with_traceback add_note attrgetter breakpoint builtins
compile copyright credits delattr dir eval exec exit gc getattr globals hasattr help id importlib license locals
methodcaller os quit setattr super type vars sys chr print format format_map""".split()
WALKERS = "list tuple dict sorted sum any all enumerate zip min max".split()


def files():
    return sorted(path for path in PACKAGE.rglob("*") if "__pycache__" not in path.parts)


def tree_of(path):
    return ast.parse(path.read_text(encoding="utf-8"))


def walked(kinds):
    """Each node of these kinds, with the file's name and its line, for telling where a fault is."""
    for path in files():
        for node in ast.walk(tree_of(path)):
            if isinstance(node, kinds):
                yield node, (path.name, getattr(node, "lineno", 0))


def defined(path):
    return {node.name for node in tree_of(path).body if isinstance(node, (ast.FunctionDef, ast.ClassDef))} | {
        node.targets[0].id for node in tree_of(path).body if isinstance(node, ast.Assign)}


def walked_on_the_spot(tree):
    """What is walked at once: what stands behind the in of a walk, or as the first thing in a call that walks it."""
    for node in ast.walk(tree):
        if isinstance(node, (ast.For, ast.comprehension)):
            yield node.iter
        if isinstance(node, ast.Call) and isinstance(node.func, ast.Name) and node.func.id in WALKERS:
            yield from node.args[:1]


def is_docstring(node):
    return isinstance(node, ast.Expr) and isinstance(node.value, ast.Constant) and isinstance(node.value.value, str)


class Files(unittest.TestCase):
    def test_names_and_signs(self):
        self.assertTrue((PACKAGE / "__init__.py").is_file())
        for path in files():
            self.assertRegex(path.name, r"^([a-z][a-z0-9_]*|__init__|__main__)\.py$")
            self.assertRegex(path.read_bytes().decode("ascii"), r"\A[ -~\n]*\Z", path.name)
            if not path.stem.startswith("__"):
                self.assertFalse(path.stem.startswith("test") or hasattr(builtins, path.stem), path.name)

    def test_sizes(self):
        for path in files():
            lines = path.read_text().split("\n")
            self.assertLessEqual(len(lines), 400, path.name)
            self.assertLessEqual(max(len(line) for line in lines), 120, path.name)
        for node, where in walked(ast.FunctionDef):
            self.assertLessEqual(node.end_lineno - node.lineno + 1, 40, where)

    def test_words_that_are_not_used(self):
        for path in files():
            text = path.read_text()
            for word in WORDS_NOT_USED:
                self.assertIsNone(re.search(rf"\b{word}\b", text), (path.name, word))
            self.assertIsNone(re.search("dataclass|overload|contextmanager", text), path.name)


class Tops(unittest.TestCase):
    def test_what_stands_at_a_top(self):
        kinds = (ast.ImportFrom, ast.FunctionDef, ast.ClassDef, ast.Assign)
        for path in files():
            body = tree_of(path).body
            for number, node in enumerate(body):
                plain = isinstance(node, kinds) or number == 0 and is_docstring(node)
                self.assertTrue(plain, (path.name, node.lineno))

    def test_each_name_once(self):
        for path in files():
            bound = []
            for node in tree_of(path).body:
                if isinstance(node, (ast.FunctionDef, ast.ClassDef)):
                    bound.append(node.name)
                if isinstance(node, ast.Assign):
                    bound.append(node.targets[0].id)
                if isinstance(node, ast.ImportFrom):
                    bound.extend(alias.name for alias in node.names)
            self.assertEqual(len(bound), len(set(bound)), path.name)

    def test_imports_are_from_the_file_that_defines_the_name(self):
        for node, where in walked(ast.ImportFrom):
            self.assertEqual(node.level, 0, where)
            self.assertRegex(node.module, r"^bitferry\.[a-z0-9_]+$", where)
            for alias in node.names:
                self.assertIn(alias.name, defined(PACKAGE / (node.module.split(".")[1] + ".py")), where)

    def test_no_two_files_draw_from_one_another(self):
        draws = {path.stem: {node.module.split(".")[1] for node in ast.walk(tree_of(path))
                             if isinstance(node, ast.ImportFrom)} for path in files()}
        for start in draws:
            reached, waiting = set(), list(draws[start])
            while waiting:
                stem = waiting.pop()
                if stem not in reached:
                    reached.add(stem)
                    waiting.extend(draws[stem])
            self.assertNotIn(start, reached)

    def test_no_local_is_called_like_a_class_or_an_import_of_its_file(self):
        for path in files():
            taken = {alias.name for node in ast.walk(tree_of(path)) if isinstance(node, ast.ImportFrom)
                     for alias in node.names}
            taken |= {node.name for node in ast.walk(tree_of(path)) if isinstance(node, ast.ClassDef)}
            for node in ast.walk(tree_of(path)):
                if isinstance(node, ast.arg) or isinstance(node, ast.Name) and isinstance(node.ctx, ast.Store):
                    self.assertNotIn(getattr(node, "arg", getattr(node, "id", "")), taken, (path.name, node.lineno))


class Code(unittest.TestCase):
    def test_statements_and_expressions(self):
        for node, where in walked(ast.AST):
            self.assertIn(type(node).__name__, NODES, where)

    def test_a_statement_of_its_own_is_a_call(self):
        for path in files():
            tree = tree_of(path)
            for node in ast.walk(tree):
                if isinstance(node, ast.Expr) and node is not tree.body[0]:
                    self.assertIsInstance(node.value, ast.Call, (path.name, node.lineno))

    def test_functions_and_classes_are_plain(self):
        for node, where in walked((ast.FunctionDef, ast.ClassDef)):
            self.assertEqual(node.decorator_list, [], where)
        for node, where in walked(ast.arguments):
            self.assertFalse(node.vararg or node.kwarg or node.kwonlyargs or node.posonlyargs, where)
        for node, where in walked(ast.ClassDef):
            self.assertLessEqual(len(node.bases), 1, where)
            self.assertEqual(node.keywords, [], where)
            self.assertTrue(all(isinstance(part, (ast.FunctionDef, ast.Pass)) for part in node.body), where)

    def test_one_target_and_no_else_behind_a_loop(self):
        for node, where in walked(ast.Assign):
            self.assertEqual(len(node.targets), 1, where)
        for node, where in walked((ast.For, ast.While)):
            self.assertEqual(node.orelse, [], where)
        for node, where in walked(ast.Try):
            self.assertEqual(node.finalbody, [], where)
        for node, where in walked(ast.ListComp):
            self.assertEqual(len(node.generators), 1, where)
            self.assertLessEqual(len(node.generators[0].ifs), 1, where)

    def test_names(self):
        for node, where in walked((ast.Name, ast.arg, ast.FunctionDef, ast.ClassDef, ast.Attribute)):
            name = [getattr(node, field) for field in ("id", "arg", "name", "attr") if hasattr(node, field)][0]
            self.assertTrue(name in DUNDERS or not name.startswith("_"), where)
            self.assertNotIn(name, NAMES_NOT_USED, where)
            if isinstance(node, ast.Name) and isinstance(node.ctx, ast.Load) and hasattr(builtins, name):
                self.assertIn(name, OWN_NAMES, where)
            if isinstance(node, ast.arg) or isinstance(node, ast.Name) and isinstance(node.ctx, ast.Store):
                self.assertFalse(hasattr(builtins, name), where)

    def test_methods(self):
        own = {node.name for node, where in walked(ast.FunctionDef)}
        for node, where in walked(ast.Call):
            if isinstance(node.func, ast.Attribute):
                self.assertTrue(node.func.attr in METHODS or node.func.attr in own, where)

    def test_values_of_objects(self):
        methods = {part.name for node, where in walked(ast.ClassDef) for part in node.body
                   if isinstance(part, ast.FunctionDef)}
        own = {name for kind in (str, int, list, dict, set, bytes, ValueError) for name in dir(kind)}
        for node, where in walked(ast.Attribute):
            if isinstance(node.ctx, ast.Store):
                self.assertEqual(getattr(node.value, "id", ""), "self", where)
                self.assertNotIn(node.attr, methods | own, where)

    def test_walked_at_once(self):
        for path in files():
            tree = tree_of(path)
            walks = list(walked_on_the_spot(tree))
            for node in ast.walk(tree):
                if isinstance(node, ast.Call) and isinstance(node.func, ast.Name):
                    if node.func.id in ("zip", "enumerate", "reversed", "range"):
                        self.assertIn(node, walks, (path.name, node.lineno))

    def test_is_stands_beside_none_true_and_false(self):
        for node, where in walked(ast.Compare):
            for sign, right in zip(node.ops, node.comparators):
                if isinstance(sign, (ast.Is, ast.IsNot)):
                    self.assertIn(getattr(right, "value", "other"), (None, True, False), where)

    def test_numbers_and_texts(self):
        for node, where in walked(ast.Constant):
            self.assertIn(type(node.value), (int, str, bool, type(None)), where)
            self.assertNotIn("%", str(node.value), where)
        for node, where in walked(ast.BinOp):
            if isinstance(node.op, ast.Pow):
                self.assertIn(getattr(node.right, "value", None), range(65), where)
        for node, where in walked(ast.FormattedValue):
            self.assertIsInstance(node.value, ast.Name, where)
            self.assertIsNone(node.format_spec, where)


if __name__ == "__main__":
    unittest.main()
