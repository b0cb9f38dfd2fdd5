"""The form of the package's files: the rules of LANGUAGE.md that a look at the code can see."""

import ast
import builtins
import re
import unittest
from pathlib import Path

PACKAGE = Path(__file__).resolve().parent.parent / "evenpoints"
FILES = sorted(PACKAGE.glob("*.py"))

ALLOWED_BUILTINS = set(
    "len range enumerate zip min max sum abs sorted reversed int str bool bytes list tuple dict set frozenset "
    "isinstance ord repr any all divmod Exception ValueError TypeError KeyError IndexError LookupError "
    "ZeroDivisionError ArithmeticError OverflowError RuntimeError NotImplementedError AttributeError "
    "StopIteration".split())
ALLOWED_METHODS = set(
    "append clear copy count endswith extend find get index insert isalnum isalpha isdigit islower isspace isupper "
    "items join keys ljust lower lstrip partition pop remove replace reverse rfind rjust rpartition rsplit rstrip "
    "setdefault split splitlines startswith strip update upper values zfill bit_length title capitalize swapcase "
    "casefold center expandtabs removeprefix removesuffix rindex isascii isdecimal isnumeric istitle isidentifier "
    "isprintable translate add discard sort".split())
BARRED_NAMES = set(
    "register mro elements open input version_info with_traceback add_note attrgetter breakpoint builtins compile "
    "copyright credits delattr dir eval exec exit gc getattr globals hasattr help id importlib license locals "
    "methodcaller os quit setattr super type vars sys".split())
BARRED_WORDS = re.compile(
    r"\b(type|typing|typing_extensions|enum|Enum|IntEnum|StrEnum|Flag|IntFlag|Generic|Protocol|ABC|ABCMeta|namedtuple|"
    r"NamedTuple|TypedDict|TYPE_CHECKING|abstractmethod)\b|dataclass|overload|contextmanager")
BARRED_NODES = (
    ast.With, ast.Match, ast.Global, ast.Nonlocal, ast.Yield, ast.YieldFrom, ast.AsyncFunctionDef, ast.AsyncFor,
    ast.AsyncWith, ast.Await, ast.GeneratorExp, ast.NamedExpr, ast.Import, ast.Div, ast.MatMult, ast.TryStar,
)
DUNDERS = {"__init__", "__eq__", "__repr__", "__str__", "__len__"}


def trees():
    """Tell each file's name and its tree."""
    return [(path.stem, ast.parse(path.read_text(encoding="utf-8"))) for path in FILES]


def functions_of(tree):
    """Tell all functions and methods within a tree."""
    return [node for node in ast.walk(tree) if isinstance(node, ast.FunctionDef)]


def bound_names(tree):
    """Tell all names that a tree assigns, defines or takes."""
    names = [node.id for node in ast.walk(tree) if isinstance(node, ast.Name) and not isinstance(node.ctx, ast.Load)]
    names += [node.arg for node in ast.walk(tree) if isinstance(node, ast.arg)]
    names += [node.name for node in ast.walk(tree) if isinstance(node, (ast.FunctionDef, ast.ClassDef))]
    return names + [node.name for node in ast.walk(tree) if isinstance(node, ast.ExceptHandler) and node.name]


def top_names(tree):
    """Tell the names that a file binds at its top, and which of these are imported or classes."""
    own, others = [], []
    for node in tree.body:
        if isinstance(node, ast.ImportFrom):
            others += [alias.asname or alias.name for alias in node.names]
        elif isinstance(node, ast.ClassDef):
            others.append(node.name)
        elif isinstance(node, ast.FunctionDef):
            own.append(node.name)
        elif isinstance(node, ast.Assign):
            own += [target.id for target in node.targets]
    return own, others


class FilesTest(unittest.TestCase):
    def test_names_of_files(self):
        self.assertTrue(FILES)
        for path in PACKAGE.iterdir():
            if path.name != "__pycache__":
                self.assertRegex(path.name, r"\A([a-z][a-z0-9_]*|__init__|__main__)\.py\Z")

    def test_signs_lines_and_words(self):
        for path in FILES:
            text = path.read_bytes().decode("ascii")
            self.assertEqual([sign for sign in text if sign != "\n" and not " " <= sign <= "~"], [], path.name)
            lines = text.split("\n")
            self.assertLessEqual(len(lines), 400, path.name)
            self.assertLessEqual(max(len(line) for line in lines), 120, path.name)
            self.assertIsNone(BARRED_WORDS.search(text), path.name)

    def test_functions_are_short(self):
        for name, tree in trees():
            for node in functions_of(tree):
                self.assertLessEqual(node.end_lineno - node.lineno + 1, 40, (name, node.name))


class TopTest(unittest.TestCase):
    def test_what_stands_at_the_top(self):
        allowed = (ast.ImportFrom, ast.FunctionDef, ast.ClassDef, ast.Assign)
        for name, tree in trees():
            self.assertIsNotNone(ast.get_docstring(tree), name)
            for node in tree.body[1:]:
                self.assertIsInstance(node, allowed, (name, node.lineno))
                if isinstance(node, ast.Assign):
                    parts = list(ast.walk(node.value))
                    barred = (ast.Call, ast.ListComp, ast.DictComp, ast.SetComp, ast.Set, ast.Lambda)
                    self.assertFalse([part for part in parts if isinstance(part, barred)], (name, node.lineno))

    def test_each_name_is_bound_once(self):
        for name, tree in trees():
            own, others = top_names(tree)
            self.assertEqual(len(set(own + others)), len(own + others), name)

    def test_imports(self):
        tops = {name: tree for name, tree in trees()}
        near = {name: [] for name in tops}
        for name, tree in tops.items():
            for node in ast.walk(tree):
                if isinstance(node, ast.ImportFrom):
                    self.assertEqual(node.level, 0, name)
                    package, module = node.module.split(".")
                    self.assertEqual(package, "evenpoints", name)
                    near[name].append(module)
                    defined = [part.name for part in tops[module].body if isinstance(part, ast.ClassDef)]
                    for alias in node.names:
                        self.assertIn(alias.name, top_names(tops[module])[0] + defined, name)
        for name in near:
            seen, todo = set(), list(near[name])
            while todo:
                module = todo.pop()
                self.assertNotEqual(module, name, "an import in a circle")
                if module not in seen:
                    seen.add(module)
                    todo += near[module]

    def test_all_imports_are_used(self):
        for name, tree in trees():
            used = {node.id for node in ast.walk(tree) if isinstance(node, ast.Name)}
            for node in tree.body:
                if isinstance(node, ast.ImportFrom):
                    for alias in node.names:
                        self.assertIn(alias.name, used, name)


class NamesTest(unittest.TestCase):
    def test_plain_names(self):
        for name, tree in trees():
            for word in bound_names(tree):
                self.assertTrue(word in DUNDERS or re.fullmatch(r"[A-Za-z][A-Za-z0-9_]*", word), (name, word))
                self.assertNotIn(word, BARRED_NAMES, name)
                self.assertNotIn(word, dir(builtins), name)

    def test_no_local_name_hides_another(self):
        for name, tree in trees():
            own, others = top_names(tree)
            for node in tree.body:
                inner = [part for part in ast.iter_child_nodes(node)]
                if isinstance(node, (ast.FunctionDef, ast.ClassDef)):
                    for part in inner:
                        methods = DUNDERS if isinstance(node, ast.ClassDef) else set()
                        self.assertFalse((set(bound_names(part)) - methods) & set(own + others), (name, node.name))

    def test_only_listed_builtins(self):
        for name, tree in trees():
            bound = set(bound_names(tree)) | set(sum(top_names(tree), []))
            for node in ast.walk(tree):
                if isinstance(node, ast.Name) and node.id not in bound:
                    self.assertIn(node.id, ALLOWED_BUILTINS, (name, node.lineno))

    def test_methods_and_attributes(self):
        methods, attributes = set(), set()
        for name, tree in trees():
            for node in ast.walk(tree):
                if isinstance(node, ast.ClassDef):
                    methods |= {part.name for part in node.body if isinstance(part, ast.FunctionDef)}
                if isinstance(node, ast.Attribute) and isinstance(node.ctx, ast.Store):
                    attributes.add(node.attr)
        self.assertFalse(methods & attributes)
        for name, tree in trees():
            for node in ast.walk(tree):
                if isinstance(node, ast.Attribute):
                    self.assertIn(node.attr, methods | attributes | ALLOWED_METHODS, (name, node.lineno))


class NodesTest(unittest.TestCase):
    def test_barred_statements(self):
        for name, tree in trees():
            for node in ast.walk(tree):
                self.assertNotIsInstance(node, BARRED_NODES, name)
                if isinstance(node, (ast.For, ast.While)):
                    self.assertEqual(node.orelse, [], (name, node.lineno))
                if isinstance(node, (ast.FunctionDef, ast.ClassDef)):
                    self.assertEqual(node.decorator_list, [], (name, node.lineno))
                if isinstance(node, ast.Starred):
                    self.assertIsInstance(node.ctx, ast.Store, name)

    def test_parameters_are_plain(self):
        for name, tree in trees():
            for node in ast.walk(tree):
                if isinstance(node, ast.arguments):
                    self.assertFalse(node.vararg or node.kwarg or node.posonlyargs, name)

    def test_classes_hold_methods_only(self):
        for name, tree in trees():
            for node in ast.walk(tree):
                if isinstance(node, ast.ClassDef):
                    self.assertLessEqual(len(node.bases), 1, name)
                    for part in node.body[1:]:
                        self.assertIsInstance(part, ast.FunctionDef, name)

    def test_values(self):
        for name, tree in trees():
            for node in ast.walk(tree):
                if isinstance(node, ast.Constant):
                    self.assertNotIsInstance(node.value, (float, complex), name)
                    if isinstance(node.value, str):
                        self.assertNotIn("%", node.value, (name, node.lineno))
                if isinstance(node, ast.BinOp) and isinstance(node.op, ast.Pow):
                    self.assertIsInstance(node.right, ast.Constant, (name, node.lineno))
                if isinstance(node, ast.FormattedValue):
                    self.assertIsNone(node.format_spec, name)

    def test_what_is_called_and_raised(self):
        for name, tree in trees():
            for node in ast.walk(tree):
                if isinstance(node, ast.Call):
                    self.assertIsInstance(node.func, (ast.Name, ast.Attribute), (name, node.lineno))
                if isinstance(node, ast.Raise):
                    self.assertIsInstance(node.exc, ast.Call, (name, node.lineno))
                    self.assertIsInstance(node.exc.func, ast.Name, (name, node.lineno))

    def test_lists_and_dicts_at_the_top_hold_no_others(self):
        for name, tree in trees():
            for node in tree.body:
                if isinstance(node, ast.Assign):
                    inner = [part for part in ast.walk(node.value) if isinstance(part, (ast.List, ast.Dict))]
                    self.assertLessEqual(len(inner), 1, (name, node.lineno))

    def test_walks_are_not_stored(self):
        once = {"zip", "enumerate", "reversed", "range"}
        for name, tree in trees():
            for node in ast.walk(tree):
                if isinstance(node, (ast.Assign, ast.AugAssign, ast.Return)) and isinstance(node.value, ast.Call):
                    called = node.value.func
                    self.assertNotIn(called.id if isinstance(called, ast.Name) else "", once, (name, node.lineno))
                    self.assertNotIn(called.attr if isinstance(called, ast.Attribute) else "", ("items", "keys", "values"))

    def test_is_only_of_none_and_truths(self):
        for name, tree in trees():
            for node in ast.walk(tree):
                if isinstance(node, ast.Compare) and isinstance(node.ops[0], (ast.Is, ast.IsNot)):
                    self.assertIsInstance(node.comparators[0], ast.Constant, name)
                    self.assertIn(node.comparators[0].value, (None, True, False), name)


if __name__ == "__main__":
    unittest.main()
