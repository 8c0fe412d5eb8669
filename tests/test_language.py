"""The package keeps to a small part of Python; this asks what a walk over its files can see of that."""

import ast
import builtins
import pathlib
import re
import unittest

PACKAGE = pathlib.Path(__file__).resolve().parent.parent / "court"

OWN_NAMES = set(
    "len range enumerate zip min max sum abs sorted reversed int str bool list tuple dict set frozenset isinstance ord"
    " repr any all divmod Exception ValueError TypeError KeyError IndexError LookupError ZeroDivisionError"
    " ArithmeticError OverflowError RuntimeError NotImplementedError AttributeError StopIteration".split()
)
METHODS = set(
    "append clear copy count endswith extend find get index insert isalnum isalpha isdigit islower isspace isupper"
    " items join keys ljust lower lstrip partition pop remove replace reverse rfind rjust rpartition rsplit rstrip"
    " setdefault split splitlines startswith strip update upper values zfill bit_length".split()
)
WALKED = set("zip enumerate reversed range items keys values".split())
WALKERS = set("list tuple dict sorted sum any all enumerate zip min max".split())
CHANGES = set("append clear extend insert pop remove reverse setdefault update".split())
DUNDERS = {"__init__", "__eq__", "__repr__", "__str__", "__len__"}
NODES = (
    "With AsyncWith Match Delete Global Nonlocal Assert Yield YieldFrom Await AsyncFor AsyncFunctionDef TryStar Div"
    " SetComp DictComp GeneratorExp NamedExpr Starred MatMult Import AnnAssign TypeAlias"
).split()
BANNED_NODES = tuple(getattr(ast, name) for name in NODES if hasattr(ast, name))
BANNED_NAMES = set(
    "register mro elements open input version_info with_traceback add_note attrgetter breakpoint builtins compile"
    " copyright credits delattr dir eval exec exit gc getattr globals hasattr help id importlib license locals"
    " methodcaller os quit setattr super vars sys chr print format format_map".split()
)
BANNED_WORDS = re.compile(
    r"\b(type|typing|typing_extensions|enum|Enum|IntEnum|StrEnum|Flag|IntFlag|Generic|Protocol|ABC|ABCMeta|namedtuple"
    r"|NamedTuple|TypedDict|TYPE_CHECKING|abstractmethod)\b|dataclass|overload|contextmanager"
)


def read_package():
    found = []
    for path in sorted(PACKAGE.glob("*.py")):
        source = path.read_bytes().decode("utf-8")
        found.append((path.name, source, ast.parse(source)))
    return found


def walk_package(*kinds):
    return [(name, node) for name, _, tree in read_package() for node in ast.walk(tree) if isinstance(node, kinds)]


class Files(unittest.TestCase):
    def test_names(self):
        names = [path.name for path in PACKAGE.iterdir() if path.name != "__pycache__"]
        self.assertIn("__init__.py", names)
        for name in names:
            self.assertRegex(name, r"\A(__init__|[a-z][a-z0-9_]*)\.py\Z")

    def test_signs_and_size(self):
        for name, source, _ in read_package():
            self.assertRegex(source, r"\A[ -~\n]*\Z", name)
            self.assertLessEqual(len(source.splitlines()), 400, name)
            for number, row in enumerate(source.splitlines(), start=1):
                self.assertLessEqual(len(row), 120, (name, number))
                self.assertIsNone(BANNED_WORDS.search(row), (name, number))

    def test_functions_are_short(self):
        for name, node in walk_package(ast.FunctionDef):
            self.assertLessEqual(node.end_lineno - node.lineno + 1, 40, (name, node.name))


class Forms(unittest.TestCase):
    def test_the_top_of_a_module(self):
        plain = (ast.Constant, ast.List, ast.Tuple, ast.Dict, ast.Load)
        for name, _, tree in read_package():
            self.assertIsInstance(tree.body[0], ast.Expr, name)
            self.assertIsInstance(tree.body[0].value, ast.Constant, name)
            for part in tree.body[1:]:
                where = (name, part.lineno)
                self.assertIsInstance(part, (ast.ImportFrom, ast.FunctionDef, ast.ClassDef, ast.Assign), where)
                if isinstance(part, ast.Assign):
                    for inner in ast.walk(part.value):
                        self.assertIsInstance(inner, plain, where)
                        if inner is not part.value:
                            self.assertNotIsInstance(inner, (ast.List, ast.Dict), where)

    def test_class_bodies(self):
        for name, node in walk_package(ast.ClassDef):
            self.assertLessEqual(len(node.bases), 1, (name, node.lineno))
            for part in node.body:
                self.assertIsInstance(part, (ast.FunctionDef, ast.Pass), (name, part.lineno))

    def test_a_name_is_not_a_method_and_a_value(self):
        methods = set()
        for _, node in walk_package(ast.ClassDef):
            methods.update(part.name for part in node.body if isinstance(part, ast.FunctionDef))
        stored = [(name, node) for name, node in walk_package(ast.Attribute) if isinstance(node.ctx, ast.Store)]
        for name, node in stored:
            self.assertNotIn(node.attr, methods, (name, node.lineno))

    def test_own_methods_and_values_are_not_called_like_those_of_python(self):
        taken = {name for kind in (str, int, list, tuple, dict, set, bytes) for name in dir(kind)}
        free = set("count index title find get join lower upper split strip copy add".split())
        for name, node in walk_package(ast.Attribute):
            if isinstance(node.ctx, ast.Store):
                self.assertNotIn(node.attr, taken - free, (name, node.lineno))
        for name, node in walk_package(ast.ClassDef):
            for part in node.body:
                if isinstance(part, ast.FunctionDef):
                    self.assertNotIn(part.name, taken - METHODS - DUNDERS - {"add", "discard"}, (name, part.lineno))

    def test_no_method_stands_twice_in_a_class(self):
        for name, node in walk_package(ast.ClassDef):
            methods = [part.name for part in node.body if isinstance(part, ast.FunctionDef)]
            self.assertEqual(len(set(methods)), len(methods), (name, node.lineno))

    def test_what_stands_at_the_top_is_only_read(self):
        for name, _, tree in read_package():
            kept = set()
            for part in tree.body:
                if isinstance(part, ast.Assign) and isinstance(part.value, (ast.List, ast.Dict)):
                    kept.add(part.targets[0].id)
            fine = []
            for node in ast.walk(tree):
                if isinstance(node, ast.Subscript) and isinstance(node.ctx, ast.Load):
                    fine.append(node.value)
                if isinstance(node, ast.Compare):
                    fine.extend(node.comparators)
                if isinstance(node, (ast.For, ast.comprehension)):
                    fine.append(node.iter)
                if isinstance(node, ast.Call) and ast.unparse(node.func) in ("len", "list", "dict", "sorted"):
                    fine.extend(node.args)
            for node in ast.walk(tree):
                if isinstance(node, ast.Name) and node.id in kept and isinstance(node.ctx, ast.Load):
                    self.assertTrue(any(node is part for part in fine), (name, node.lineno))

    def test_errors_are_made_on_the_spot(self):
        for name, node in walk_package(ast.Raise):
            self.assertIsInstance(node.exc, ast.Call, (name, node.lineno))

    def test_no_two_files_draw_from_one_another(self):
        drawn = {}
        for name, node in walk_package(ast.ImportFrom):
            drawn.setdefault(name, set()).add(node.module.rpartition(".")[2] + ".py")
        for name in drawn:
            reached = set()
            ahead = set(drawn[name])
            while ahead:
                other = ahead.pop()
                reached.add(other)
                ahead |= drawn.get(other, set()) - reached
            self.assertNotIn(name, reached)

    def test_sets_are_asked_on_the_spot(self):
        for name, _, tree in read_package():
            fine = []
            for node in ast.walk(tree):
                if isinstance(node, ast.Compare):
                    fine.extend([node.left, *node.comparators])
                if isinstance(node, ast.Call) and isinstance(node.func, ast.Name) and node.func.id in ("sorted", "len"):
                    fine.extend(node.args)
            places = {(part.lineno, part.col_offset) for part in fine}
            for node in ast.walk(tree):
                if isinstance(node, ast.Call) and isinstance(node.func, ast.Name) and node.func.id == "set":
                    self.assertIn((node.lineno, node.col_offset), places, (name, node.lineno))

    def test_imports(self):
        for name, node in walk_package(ast.ImportFrom):
            self.assertEqual(node.level, 0, name)
            self.assertRegex(node.module, r"\A(court\.[a-z_]+|__future__)\Z", name)
            self.assertNotIn("*", [alias.name for alias in node.names], name)

    def test_nodes(self):
        self.assertEqual(walk_package(*BANNED_NODES), [])

    def test_statements(self):
        for name, node in walk_package(ast.For, ast.While):
            self.assertEqual(node.orelse, [], (name, node.lineno))
        for name, node in walk_package(ast.Try):
            self.assertEqual(node.finalbody, [], (name, node.lineno))
        for name, node in walk_package(ast.Assign):
            self.assertEqual(len(node.targets), 1, (name, node.lineno))
        for name, node in walk_package(ast.FunctionDef, ast.ClassDef):
            self.assertEqual(node.decorator_list, [], (name, node.lineno))

    def test_comprehensions(self):
        for name, node in walk_package(ast.ListComp):
            self.assertEqual(len(node.generators), 1, (name, node.lineno))
            self.assertLessEqual(len(node.generators[0].ifs), 1, (name, node.lineno))

    def test_values(self):
        for name, node in walk_package(ast.Constant):
            self.assertIsInstance(node.value, (int, str, type(None)), (name, node.lineno))
            self.assertNotIn("%", str(node.value), (name, node.lineno))
        for name, node in walk_package(ast.FormattedValue):
            self.assertIsInstance(node.value, ast.Name, (name, node.lineno))
            self.assertIsNone(node.format_spec, (name, node.lineno))

    def test_is_stands_beside_none_true_and_false(self):
        for name, node in walk_package(ast.Compare):
            for sign, side in zip(node.ops, node.comparators):
                if isinstance(sign, (ast.Is, ast.IsNot)):
                    self.assertIsInstance(side, ast.Constant, (name, node.lineno))
                    self.assertIn(repr(side.value), ("None", "True", "False"), (name, node.lineno))

    def test_names(self):
        for name, node in walk_package(ast.Name):
            self.assertRegex(node.id, r"\A[A-Za-z][A-Za-z0-9_]*\Z", (name, node.lineno))
            self.assertNotIn(node.id, BANNED_NAMES, (name, node.lineno))
            if hasattr(builtins, node.id):
                self.assertIn(node.id, OWN_NAMES, (name, node.lineno))
                self.assertIsInstance(node.ctx, ast.Load, (name, node.lineno))
        for name, node in walk_package(ast.arg):
            self.assertFalse(hasattr(builtins, node.arg), (name, node.lineno))
        for name, node in walk_package(ast.FunctionDef):
            if node.name not in DUNDERS:
                self.assertRegex(node.name, r"\A[A-Za-z][A-Za-z0-9_]*\Z", (name, node.lineno))

    def test_locals_are_not_called_like_imports_or_classes(self):
        for name, _, tree in read_package():
            taken = {node.name for node in ast.walk(tree) if isinstance(node, ast.ClassDef)}
            for node in ast.walk(tree):
                if isinstance(node, ast.ImportFrom):
                    taken.update(alias.asname or alias.name for alias in node.names)
            for node in ast.walk(tree):
                if isinstance(node, ast.arg):
                    self.assertNotIn(node.arg, taken, (name, node.lineno))
                if isinstance(node, ast.Name) and isinstance(node.ctx, ast.Store):
                    self.assertNotIn(node.id, taken, (name, node.lineno))

    def test_walks_are_walked_at_once(self):
        for name, _, tree in read_package():
            fine = []
            for node in ast.walk(tree):
                if isinstance(node, (ast.For, ast.comprehension)):
                    fine.append(node.iter)
                if isinstance(node, ast.Call) and ast.unparse(node.func) in WALKERS:
                    fine.extend(node.args[:1])
            for node in ast.walk(tree):
                if isinstance(node, ast.Call) and ast.unparse(node.func).rpartition(".")[2] in WALKED:
                    self.assertTrue(any(node is part for part in fine), (name, node.lineno))

    def test_what_a_loop_walks_is_not_changed_in_it(self):
        for name, loop in walk_package(ast.For):
            walked = [ast.unparse(loop.iter)]
            if isinstance(loop.iter, ast.Call) and ast.unparse(loop.iter.func) in WALKED:
                walked.extend(ast.unparse(part) for part in loop.iter.args)
            if isinstance(loop.iter, ast.Call) and isinstance(loop.iter.func, ast.Attribute):
                walked.append(ast.unparse(loop.iter.func.value))
            for node in [inner for part in loop.body for inner in ast.walk(part)]:
                if isinstance(node, ast.Subscript) and isinstance(node.ctx, ast.Store):
                    self.assertNotIn(ast.unparse(node.value), walked, (name, node.lineno))
                if isinstance(node, ast.Call) and isinstance(node.func, ast.Attribute) and node.func.attr in CHANGES:
                    self.assertNotIn(ast.unparse(node.func.value), walked, (name, node.lineno))

    def test_keywords(self):
        fine = {"sorted": ["key", "reverse"], "min": ["key", "default"], "max": ["key", "default"]}
        fine.update({"sum": ["start"], "enumerate": ["start"], "zip": ["strict"]})
        for name, node in walk_package(ast.Call):
            called = ast.unparse(node.func)
            if called in OWN_NAMES or called.rpartition(".")[2] in METHODS:
                for word in node.keywords:
                    self.assertIn(word.arg, fine.get(called, []), (name, node.lineno))

    def test_methods(self):
        own = set()
        for _, node in walk_package(ast.ClassDef):
            own.update(part.name for part in node.body if isinstance(part, ast.FunctionDef))
        for name, node in walk_package(ast.Call):
            if isinstance(node.func, ast.Attribute):
                self.assertIn(node.func.attr, METHODS | own, (name, node.lineno))


if __name__ == "__main__":
    unittest.main()
