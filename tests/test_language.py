"""The rules of LANGUAGE.md that can be seen in the files of the package; each test names its rules."""

import ast
import builtins
import pathlib
import re
import unittest

FOLDER = pathlib.Path(__file__).resolve().parent.parent / "stepwhere"

ALLOWED_BUILTINS = set("""
    len range enumerate zip min max sum abs sorted reversed int str bool bytes list tuple dict set frozenset isinstance
    ord repr any all divmod iter next map super property staticmethod classmethod object Exception ValueError TypeError
    KeyError IndexError LookupError ZeroDivisionError ArithmeticError OverflowError RuntimeError NotImplementedError
    AttributeError StopIteration NotImplemented
""".split())

ALLOWED_METHODS = set("""
    append clear copy count endswith extend find get index insert isalnum isalpha isdigit islower isspace isupper items
    join keys ljust lower lstrip partition pop remove replace reverse rfind rjust rpartition rsplit rstrip setdefault
    split splitlines startswith strip update upper values zfill bit_length add discard sort
""".split())

# L17: in no file at all, and in no file but for comments and docstrings.
BARRED_NAMES = "register mro elements open input law version_info with_traceback add_note".split()
BARRED_WORDS = re.compile(
    r"\b(type|typing|typing_extensions|enum|Enum|IntEnum|StrEnum|Flag|IntFlag|Generic|Protocol|ABC|ABCMeta|namedtuple"
    r"|NamedTuple|TypedDict|TYPE_CHECKING|abstractmethod)\b|dataclass|overload|contextmanager|metaclass|Meta")

BARRED_ATTRIBUTES = "args encode decode hex fromhex format keys values items sort".split()

BARRED_NODES = (ast.Global, ast.AsyncFunctionDef, ast.AsyncFor, ast.AsyncWith, ast.Await, ast.Import, ast.Div)


def package_files():
    paths = sorted(path for path in FOLDER.iterdir() if path.name != "__pycache__")
    return {path.name: path.read_text(encoding="utf-8") for path in paths}


def is_docstring(node):
    return isinstance(node, ast.Expr) and isinstance(node.value, ast.Constant) and isinstance(node.value.value, str)


def code_words(tree):
    """The names and strings of a file, docstrings left aside."""
    docstrings = [node.value for node in ast.walk(tree) if is_docstring(node)]
    for node in ast.walk(tree):
        if isinstance(node, ast.Constant) and isinstance(node.value, str) and node not in docstrings:
            yield node.value
        for field in ("id", "attr", "name", "arg"):
            if isinstance(getattr(node, field, None), str):
                yield getattr(node, field)


def bound_names(tree):
    """Every name that something in the file gives a meaning."""
    for node in ast.walk(tree):
        if isinstance(node, (ast.FunctionDef, ast.ClassDef)):
            yield node.name
        elif isinstance(node, ast.arg):
            yield node.arg
        elif isinstance(node, ast.alias):
            yield node.asname or node.name
        elif isinstance(node, ast.ExceptHandler) and node.name is not None:
            yield node.name
        elif isinstance(node, ast.Name) and not isinstance(node.ctx, ast.Load):
            yield node.id


def inner_names(tree):
    """The parameters and local variables of the functions of a file."""
    for function in ast.walk(tree):
        if isinstance(function, ast.FunctionDef):
            for node in ast.walk(function):
                if isinstance(node, ast.arg):
                    yield node.arg
                elif isinstance(node, ast.Name) and not isinstance(node.ctx, ast.Load):
                    yield node.id


class TestLanguage(unittest.TestCase):

    @classmethod
    def setUpClass(cls):
        cls.files = package_files()
        cls.trees = {name: ast.parse(text) for name, text in cls.files.items()}

    def nodes(self, kind):
        for name, tree in self.trees.items():
            for node in ast.walk(tree):
                if isinstance(node, kind):
                    yield name, node

    def test_l1_l14_files(self):
        self.assertIn("__init__.py", self.files)
        for name in self.files:
            self.assertRegex(name, r"^(__init__|[a-z][a-z0-9_]*)\.py$")

    def test_l10_l14_sizes_and_characters(self):
        for name, text in self.files.items():
            self.assertRegex(text, r"^[ -~\n]*$", name)
            self.assertLessEqual(len(text.splitlines()), 399, name)
            self.assertLessEqual(max(map(len, text.splitlines())), 120, name)
        for name, node in self.nodes(ast.FunctionDef):
            self.assertLessEqual(node.end_lineno - node.lineno + 1, 40, (name, node.name))

    def test_l2_l16_imports(self):
        ahead = {}
        for name, node in self.nodes(ast.ImportFrom):
            self.assertRegex(node.module, r"^stepwhere\.[a-z]+$")
            self.assertIn(node, self.trees[name].body)
            source = node.module.split(".")[1] + ".py"
            ahead.setdefault(name, set()).add(source)
            for alias in node.names:
                top = [part.name for part in self.trees[source].body if hasattr(part, "name")]
                top += [part.targets[0].id for part in self.trees[source].body if isinstance(part, ast.Assign)]
                self.assertIn(alias.name, top)
        left = dict(ahead)
        while left:
            ended = [name for name in left if not left[name] & set(left)]
            self.assertTrue(ended, left)
            left = {name: left[name] for name in left if name not in ended}

    def test_l3_module_level(self):
        allowed = (ast.ImportFrom, ast.FunctionDef, ast.ClassDef, ast.Assign)
        for name, tree in self.trees.items():
            self.assertTrue(is_docstring(tree.body[0]), name)
            for node in tree.body[1:]:
                self.assertIsInstance(node, allowed, name)
            tops = [node.name for node in tree.body if isinstance(node, (ast.FunctionDef, ast.ClassDef))]
            self.assertEqual(len(tops), len(set(tops)), name)

    def test_l4_decorators_and_l6_l7_nodes(self):
        for name, node in self.nodes((ast.FunctionDef, ast.ClassDef)):
            self.assertEqual(node.decorator_list, [], (name, node.name))
        for name, node in self.nodes(BARRED_NODES):
            self.fail((name, node.lineno if hasattr(node, "lineno") else node))
        for name, node in self.nodes(ast.Constant):
            self.assertNotIsInstance(node.value, (float, complex), name)

    def test_l5_l18_classes(self):
        for name, node in self.nodes(ast.ClassDef):
            methods = [part.name for part in node.body if isinstance(part, ast.FunctionDef)]
            self.assertEqual(len(methods), len(set(methods)), node.name)
            stored = [part.attr for part in ast.walk(node) if isinstance(part, ast.Attribute)
                      and isinstance(part.ctx, ast.Store) and isinstance(part.value, ast.Name)]
            self.assertEqual(set(methods) & set(stored), set(), node.name)
            self.assertNotIn("args", list(bound_names(node)), node.name)

    def test_l18_names_of_methods_and_attributes(self):
        methods = {part.name for _, node in self.nodes(ast.ClassDef) for part in node.body
                   if isinstance(part, ast.FunctionDef)}
        stored = {node.attr for _, node in self.nodes(ast.Attribute) if isinstance(node.ctx, ast.Store)}
        read = {node.attr for _, node in self.nodes(ast.Attribute) if isinstance(node.ctx, ast.Load)}
        self.assertEqual(methods & stored, set())
        self.assertEqual(read - stored - methods - ALLOWED_METHODS, set())

    def test_l26_names_of_attributes(self):
        for name, node in self.nodes(ast.Attribute):
            if isinstance(node.ctx, ast.Store):
                self.assertNotIn(node.attr, BARRED_ATTRIBUTES, name)
                self.assertNotIn(node.attr, dir(str) + dir(int) + dir(dict) + dir(list) + dir(set) + dir(bytes), name)

    def test_l7_stars_and_l13_lambdas(self):
        plain = (ast.Name, ast.Attribute, ast.Constant, ast.List, ast.Tuple, ast.Lambda)
        for name, node in self.nodes(ast.Call):
            stars = [part for part in node.args if isinstance(part, ast.Starred)]
            if stars:
                behind = node.args[node.args.index(stars[0]):]
                for part in behind:
                    inner = part.value if isinstance(part, ast.Starred) else part
                    self.assertIsInstance(inner, plain, (name, node.lineno))
        for name, tree in self.trees.items():
            lines = [node.lineno for node in ast.walk(tree) if isinstance(node, ast.Lambda)]
            self.assertEqual(len(lines), len(set(lines)), name)

    def test_l7_whole_numbers_and_l24_sets(self):
        for name, node in self.nodes((ast.Set, ast.SetComp, ast.NamedExpr, ast.Delete)):
            if isinstance(node, ast.Delete):
                for target in node.targets:
                    self.assertIsInstance(target, (ast.Subscript, ast.Name), name)
            else:
                self.fail((name, node.lineno))

    def test_l19_one_name_for_each_handler(self):
        for name, node in self.nodes(ast.FunctionDef):
            told = [part.name for part in ast.walk(node) if isinstance(part, ast.ExceptHandler) and part.name]
            self.assertEqual(len(told), len(set(told)), (name, node.name))
            self.assertEqual(set(told) & set(inner_names(node)), set(), (name, node.name))

    def test_l3_l15_tables(self):
        for name, tree in self.trees.items():
            tables = {}
            for node in tree.body:
                if isinstance(node, ast.Assign):
                    self.assertEqual(len(node.targets), 1)
                    self.assertIsInstance(node.targets[0], ast.Name, name)
                    if isinstance(node.value, (ast.Dict, ast.List)):
                        tables[node.targets[0].id] = True
                    for part in ast.walk(node.value):
                        self.assertNotIsInstance(part, (ast.Call, ast.Attribute), name)
            for node in ast.walk(tree):
                # A function out of a table is given a name before it is called.
                if isinstance(node, ast.Call):
                    self.assertNotIsInstance(node.func, (ast.Subscript, ast.Call), (name, node.lineno))
                    if not (isinstance(node.func, ast.Name) and node.func.id in ("dict", "list", "len", "sorted")):
                        for part in node.args:
                            self.assertNotIn(getattr(part, "id", None), tables, (name, node.lineno))

    def test_l23_l25_methods_are_called_where_they_stand(self):
        methods = {part.name for _, node in self.nodes(ast.ClassDef) for part in node.body
                   if isinstance(part, ast.FunctionDef)}
        for name, tree in self.trees.items():
            called = [node.func for node in ast.walk(tree) if isinstance(node, ast.Call)]
            for node in ast.walk(tree):
                if isinstance(node, ast.Attribute) and node.attr in methods and node not in called:
                    self.fail((name, node.lineno, node.attr))

    def test_l6_rows_of_exit_and_finally(self):
        for name, node in self.nodes(ast.Try):
            self.assertEqual(node.finalbody, [], name)
        for name, node in self.nodes(ast.FunctionDef):
            if node.name == "__exit__":
                for row in node.body:
                    self.assertIsInstance(row, ast.Assign)
                    self.assertIsInstance(row.targets[0], ast.Attribute)
                    self.assertIsInstance(row.value, (ast.Attribute, ast.Constant))

    def test_l8_l15_builtins(self):
        every = set(dir(builtins))
        for name, tree in self.trees.items():
            bound = set(bound_names(tree))
            self.assertEqual(bound & every, set(), name)
            for node in ast.walk(tree):
                if isinstance(node, ast.Name) and isinstance(node.ctx, ast.Load) and node.id not in bound:
                    self.assertIn(node.id, ALLOWED_BUILTINS, name)

    def test_l15_local_names(self):
        for name, tree in self.trees.items():
            taken = [node.name for node in tree.body if isinstance(node, ast.ClassDef)]
            taken += [alias.name for node in tree.body if isinstance(node, ast.ImportFrom) for alias in node.names]
            self.assertEqual(set(inner_names(tree)) & set(taken), set(), name)

    def test_l17_words(self):
        for name, tree in self.trees.items():
            for word in code_words(tree):
                self.assertIsNone(BARRED_WORDS.search(word), (name, word))
                self.assertNotIn(word, BARRED_NAMES, name)

    def test_l19_errors(self):
        named = [node.name for _, node in self.nodes(ast.ClassDef)] + ["KeyError", "ZeroDivisionError"]
        for name, node in self.nodes(ast.ExceptHandler):
            kinds = node.type.elts if isinstance(node.type, ast.Tuple) else [node.type]
            for kind in kinds:
                self.assertIn(kind.id, named, name)
        for name, node in self.nodes(ast.Raise):
            self.assertIsInstance(node.exc, (ast.Call, type(None)), name)

    def test_l20_is(self):
        for name, node in self.nodes(ast.Compare):
            for sign, thing in zip(node.ops, node.comparators):
                if isinstance(sign, (ast.Is, ast.IsNot)):
                    is_self = isinstance(node.left, ast.Name) and node.left.id == "self"
                    self.assertTrue(is_self or isinstance(thing, ast.Constant), (name, node.lineno))

    def test_l5_reversed(self):
        for name, node in self.nodes(ast.Call):
            if isinstance(node.func, ast.Name) and node.func.id == "reversed":
                inner = node.args[0].func.id if isinstance(node.args[0], ast.Call) else None
                self.assertIn(inner, ("list", "tuple", "sorted", "range"), (name, node.lineno))

    def test_l23_no_generators(self):
        for name, node in self.nodes((ast.Yield, ast.YieldFrom, ast.GeneratorExp)):
            self.fail((name, node.lineno))

    def test_l25_methods(self):
        own = {node.name for _, node in self.nodes(ast.FunctionDef)}
        for name, node in self.nodes(ast.Call):
            if isinstance(node.func, ast.Attribute):
                self.assertIn(node.func.attr, own | ALLOWED_METHODS, name)

    def test_l27_strings(self):
        for name, node in self.nodes(ast.Constant):
            if isinstance(node.value, str):
                self.assertNotIn("%", node.value, name)


if __name__ == "__main__":
    unittest.main()
