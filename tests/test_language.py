"""The package keeps to the part of Python that is set for it, as far as a walk over its files can tell."""

import ast
import builtins
import pathlib
import re
import unittest

PACKAGE = pathlib.Path(__file__).resolve().parent.parent / "crosswright"
FILES = sorted(path for path in PACKAGE.rglob("*") if "__pycache__" not in path.parts)
TREES = {path.stem: ast.parse(path.read_text("utf-8")) for path in FILES if path.suffix == ".py"}

BUILTINS = set(
    "len range enumerate zip min max sum abs sorted reversed int str bool list tuple dict set frozenset isinstance"
    " ord repr any all divmod Exception ValueError TypeError KeyError IndexError LookupError ZeroDivisionError"
    " ArithmeticError OverflowError RuntimeError NotImplementedError AttributeError StopIteration".split()
)
METHODS = set(
    "append clear copy count endswith extend find get index insert isalnum isalpha isdigit islower isspace isupper"
    " items join keys ljust lower lstrip partition pop remove replace reverse rfind rjust rpartition rsplit rstrip"
    " setdefault split splitlines startswith strip update upper values zfill bit_length".split()
)
SPECIAL = {"__init__", "__eq__", "__repr__", "__str__", "__len__"}
NEVER_NAMES = {
    "register", "mro", "elements", "open", "input", "version_info", "with_traceback", "add_note", "attrgetter",
    "methodcaller", "importlib", "os", "gc", "sys", "format", "format_map", "sort", "chr",
}
NEVER_WORDS = re.compile(
    r"\b(type|typing|typing_extensions|enum|Enum|IntEnum|StrEnum|Flag|IntFlag|Generic|Protocol|ABC|ABCMeta"
    r"|namedtuple|NamedTuple|TypedDict|TYPE_CHECKING|abstractmethod)\b|dataclass|overload|contextmanager"
)
NODES = (
    ast.Module, ast.Expr, ast.Constant, ast.Name, ast.Load, ast.Store, ast.Attribute, ast.Subscript, ast.Slice,
    ast.ImportFrom, ast.alias, ast.FunctionDef, ast.Lambda, ast.arguments, ast.arg, ast.ClassDef, ast.Assign,
    ast.AugAssign, ast.If, ast.While, ast.For, ast.Return, ast.Break, ast.Continue, ast.Pass, ast.Raise, ast.Try,
    ast.ExceptHandler, ast.List, ast.Tuple, ast.Dict, ast.Set, ast.BinOp, ast.UnaryOp, ast.BoolOp, ast.Compare,
    ast.IfExp, ast.Call, ast.keyword, ast.ListComp, ast.comprehension, ast.JoinedStr, ast.FormattedValue,
    ast.operator, ast.unaryop, ast.boolop, ast.cmpop,
)


def nodes():
    for stem, tree in TREES.items():
        for node in ast.walk(tree):
            yield stem, node


def defined(tree):
    names = [node.name for node in tree.body if isinstance(node, (ast.FunctionDef, ast.ClassDef))]
    return names + [node.targets[0].id for node in tree.body if isinstance(node, ast.Assign)]


def drawn(stem):
    return [node.module.split(".")[1] for node in TREES[stem].body if isinstance(node, ast.ImportFrom)]


class Language(unittest.TestCase):
    def check(self, stem, node, holds):
        self.assertTrue(holds, f"{stem}.py, line {getattr(node, 'lineno', '?')}: {ast.dump(node)[:200]}")

    def test_files(self):
        self.assertIn("__init__", TREES)
        for path in FILES:
            self.assertRegex(path.name, r"\A([a-z][a-z0-9_]*|__init__)\.py\Z")
            self.assertFalse(path.stem in dir(builtins) or path.stem.startswith("test"))

    def test_size_signs_and_words(self):
        for path in FILES:
            text = path.read_text("utf-8")
            self.assertRegex(text, r"\A[ -~\n]*\Z", path.name)
            self.assertIsNone(NEVER_WORDS.search(text), path.name)
            self.assertLessEqual(len(text.splitlines()), 400, path.name)
            self.assertLessEqual(max(map(len, text.splitlines())), 120, path.name)
        for stem, node in nodes():
            if isinstance(node, ast.FunctionDef):
                self.check(stem, node, node.end_lineno - node.lineno < 40)

    def test_only_the_known_forms(self):
        for stem, node in nodes():
            self.check(stem, node, isinstance(node, NODES))
            self.check(stem, node, not isinstance(node, (ast.Div, ast.MatMult)))
            if isinstance(node, ast.Constant):
                self.check(stem, node, node.value is None or isinstance(node.value, (bool, int, str)))
                self.check(stem, node, not isinstance(node.value, str) or "%" not in node.value)
            if isinstance(node, ast.Assign):
                self.check(stem, node, len(node.targets) == 1)
            if isinstance(node, (ast.For, ast.While)):
                self.check(stem, node, not node.orelse)
            if isinstance(node, ast.Try):
                self.check(stem, node, not node.finalbody and all(part.type for part in node.handlers))
            if isinstance(node, ast.ListComp):
                self.check(stem, node, len(node.generators) == 1 and len(node.generators[0].ifs) < 2)
            if isinstance(node, ast.FormattedValue):
                self.check(stem, node, isinstance(node.value, ast.Name) and node.format_spec is None)
            if isinstance(node, ast.Compare) and any(isinstance(op, (ast.Is, ast.IsNot)) for op in node.ops):
                self.check(stem, node, all(isinstance(part, ast.Constant) for part in node.comparators))
            if isinstance(node, ast.Expr):
                self.check(stem, node, isinstance(node.value, (ast.Call, ast.Constant)))

    def test_functions_and_classes(self):
        for stem, node in nodes():
            if isinstance(node, ast.FunctionDef):
                self.check(stem, node, not node.decorator_list and node.returns is None)
            if isinstance(node, ast.arguments):
                self.check(stem, node, not (node.vararg or node.kwarg or node.kwonlyargs or node.posonlyargs))
            if isinstance(node, ast.ClassDef):
                self.check(stem, node, node in TREES[stem].body)
                self.check(stem, node, len(node.bases) < 2 and not node.keywords and not node.decorator_list)
                rest = [part for part in node.body if not isinstance(part, ast.FunctionDef)]
                self.check(stem, node, all(isinstance(part, (ast.Expr, ast.Pass)) for part in rest))

    def test_the_top_of_a_file(self):
        for stem, tree in TREES.items():
            names = defined(tree)
            self.assertEqual(len(names), len(set(names)), stem)
            for node in tree.body:
                kinds = (ast.Expr, ast.ImportFrom, ast.FunctionDef, ast.ClassDef, ast.Assign)
                self.check(stem, node, isinstance(node, kinds))
                if isinstance(node, ast.Expr):
                    self.check(stem, node, node is tree.body[0] and isinstance(node.value, ast.Constant))
                if isinstance(node, ast.Assign):
                    kinds = (ast.Constant, ast.Tuple, ast.List, ast.Dict, ast.Name, ast.Load, ast.UnaryOp, ast.USub)
                    self.check(stem, node, all(isinstance(part, kinds) for part in ast.walk(node.value)))

    def test_imports(self):
        for stem, node in nodes():
            if isinstance(node, ast.ImportFrom):
                self.check(stem, node, node in TREES[stem].body and node.level == 0)
                self.check(stem, node, re.fullmatch(r"crosswright\.[a-z][a-z0-9_]*", node.module) is not None)
                names = defined(TREES[node.module.split(".")[1]])
                self.check(stem, node, all(part.name in names and part.asname is None for part in node.names))
        for stem in TREES:
            reached = drawn(stem)
            for other in reached:
                reached.extend(more for more in drawn(other) if more not in reached)
            self.assertNotIn(stem, reached)

    def test_names(self):
        for stem, node in nodes():
            name = getattr(node, "id", getattr(node, "attr", getattr(node, "arg", getattr(node, "name", None))))
            if name is None or isinstance(node, ast.alias):
                continue
            self.check(stem, node, name not in NEVER_NAMES)
            self.check(stem, node, name in SPECIAL or re.fullmatch("[A-Za-z][A-Za-z0-9_]*", name) is not None)
            if isinstance(node, ast.Name) and hasattr(builtins, name):
                self.check(stem, node, name in BUILTINS and isinstance(node.ctx, ast.Load))
            if isinstance(node, ast.arg) or (isinstance(node, ast.FunctionDef) and node in TREES[stem].body):
                self.check(stem, node, not hasattr(builtins, name))

    def test_methods(self):
        own = {node.name for stem, node in nodes() if isinstance(node, ast.FunctionDef)}
        for stem, node in nodes():
            if isinstance(node, ast.Call) and isinstance(node.func, ast.Attribute):
                self.check(stem, node, node.func.attr in METHODS | SPECIAL | own)

    def test_no_name_is_a_method_here_and_a_value_there(self):
        kinds = [node for stem, node in nodes() if isinstance(node, ast.ClassDef)]
        methods = {part.name for kind in kinds for part in kind.body if isinstance(part, ast.FunctionDef)}
        values = {
            node.attr for stem, node in nodes() if isinstance(node, ast.Attribute) and isinstance(node.ctx, ast.Store)
        }
        self.assertEqual(methods & values, set())
        self.assertEqual(values & set(dir("") + dir(0) + dir([]) + dir({}) + dir(b"")), set())

    def test_no_local_is_called_like_a_class_or_an_import_of_its_file(self):
        for stem, tree in TREES.items():
            taken = {part.name for node in tree.body if isinstance(node, ast.ImportFrom) for part in node.names}
            taken |= {node.name for node in tree.body if isinstance(node, ast.ClassDef)}
            for node in ast.walk(tree):
                if isinstance(node, ast.arg):
                    self.check(stem, node, node.arg not in taken)
                if isinstance(node, ast.Name) and isinstance(node.ctx, ast.Store):
                    self.check(stem, node, node.id not in taken)

    def test_sets_are_asked_or_sorted_on_the_spot(self):
        for stem, tree in TREES.items():
            fine = []
            for node in ast.walk(tree):
                if isinstance(node, ast.Compare):
                    fine.extend([node.left] + node.comparators)
                if isinstance(node, ast.Call) and isinstance(node.func, ast.Name) and node.func.id in ("sorted", "len"):
                    fine.extend(node.args)
            for node in ast.walk(tree):
                if isinstance(node, ast.Call) and isinstance(node.func, ast.Name) and node.func.id == "set":
                    self.check(stem, node, node in fine)


if __name__ == "__main__":
    unittest.main()
