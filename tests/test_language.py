"""A part of the rules for the language of the program, looked at in its files.

Only what can be told from a file without much reading is looked at here.
"""

import ast
import builtins
import os
import re
import unittest

FOLDER = os.path.join(os.path.dirname(os.path.dirname(os.path.abspath(__file__))), "samerounds")

BUILTINS = (
    "len range enumerate zip min max sum abs sorted reversed int str bool bytes list tuple dict set isinstance "
    "ord repr any all divmod iter next super property staticmethod classmethod Exception ValueError TypeError "
    "KeyError IndexError LookupError ZeroDivisionError ArithmeticError OverflowError RuntimeError "
    "NotImplementedError AttributeError StopIteration NotImplemented"
).split()

BARRED_WORDS = (
    "type typing typing_extensions enum Enum IntEnum StrEnum Flag IntFlag Generic Protocol ABC ABCMeta "
    "namedtuple NamedTuple TypedDict TYPE_CHECKING abstractmethod"
).split()

BARRED_NAMES = "register mro elements open input law version_info with_traceback add_note".split()

BARRED_NODES = (
    ast.AsyncFor, ast.AsyncFunctionDef, ast.AsyncWith, ast.Await, ast.Global, ast.Div,
)

METHODS = (
    "append clear copy count endswith extend find get index insert isalnum isalpha isdigit islower isspace isupper "
    "items join keys ljust lower lstrip partition pop remove replace reverse rfind rjust rpartition rsplit rstrip "
    "setdefault split splitlines startswith strip update upper values zfill bit_length add discard"
).split()


def read_files():
    """For each file of the package its name, its text and its tree."""
    rows = []
    for name in sorted(os.listdir(FOLDER)):
        if name != "__pycache__":
            with open(os.path.join(FOLDER, name), encoding="utf-8", newline="") as file:
                text = file.read()
            rows.append((name, text, ast.parse(text)))
    return rows


def bound_names(tree):
    """All names that a file binds, but those of methods and attributes."""
    names = []
    for node in ast.walk(tree):
        if isinstance(node, ast.Name) and not isinstance(node.ctx, ast.Load):
            names.append(node.id)
        elif isinstance(node, ast.arg):
            names.append(node.arg)
        elif isinstance(node, ast.ClassDef):
            names.append(node.name)
        elif isinstance(node, (ast.Import, ast.ImportFrom)):
            names += [alias.asname or alias.name for alias in node.names]
    methods = [id(node) for owner in ast.walk(tree) if isinstance(owner, ast.ClassDef) for node in owner.body]
    for node in ast.walk(tree):
        if isinstance(node, ast.FunctionDef) and id(node) not in methods:
            names.append(node.name)
    return names


class Language(unittest.TestCase):
    def setUp(self):
        self.files = read_files()
        self.assertGreater(len(self.files), 4)

    def test_files(self):
        for name, text, tree in self.files:
            self.assertRegex(name, r"^(__init__|[a-z][a-z0-9_]*)\.py$")
            self.assertLessEqual(len(text.splitlines()), 399, name)
            self.assertRegex(text, r"^[ -~\n]*\Z", name)
            for line in text.splitlines():
                self.assertLessEqual(len(line), 120, line)

    def test_words(self):
        for name, text, tree in self.files:
            words = re.findall(r"\w+", text)
            self.assertEqual([word for word in words if word in BARRED_WORDS], [], name)
            for part in ("dataclass", "overload", "contextmanager"):
                self.assertNotIn(part, text)

    def test_functions_are_short(self):
        for name, text, tree in self.files:
            for node in ast.walk(tree):
                if isinstance(node, ast.FunctionDef):
                    self.assertLessEqual(node.end_lineno - node.lineno + 1, 40, node.name)
                    self.assertFalse(node.name.startswith("_") and not node.name.endswith("__"), node.name)

    def test_imports(self):
        for name, text, tree in self.files:
            for node in ast.walk(tree):
                self.assertNotIsInstance(node, ast.Import, name)
                if isinstance(node, ast.ImportFrom):
                    self.assertRegex(node.module, r"^samerounds\.[a-z]+$")
                    self.assertEqual(node.level, 0)
                    self.assertIn(node, tree.body)

    def test_names(self):
        for name, text, tree in self.files:
            for bound in bound_names(tree):
                self.assertFalse(hasattr(builtins, bound), bound)
                self.assertNotIn(bound, BARRED_NAMES)
                self.assertFalse(bound.startswith("_"), bound)

    def test_no_local_name_of_an_import_or_class(self):
        for name, text, tree in self.files:
            outer = [node.name for node in tree.body if isinstance(node, ast.ClassDef)]
            for node in tree.body:
                if isinstance(node, ast.ImportFrom):
                    outer += [alias.name for alias in node.names]
            names = bound_names(tree)
            self.assertEqual([one for one in outer if names.count(one) > 1], [], name)

    def test_builtins(self):
        for name, text, tree in self.files:
            for node in ast.walk(tree):
                if isinstance(node, ast.Name) and hasattr(builtins, node.id):
                    self.assertIn(node.id, BUILTINS, name)

    def test_expressions(self):
        classes = [node for name, text, tree in self.files for node in tree.body if isinstance(node, ast.ClassDef)]
        own = [node.name for owner in classes for node in owner.body if isinstance(node, ast.FunctionDef)]
        for name, text, tree in self.files:
            for node in ast.walk(tree):
                self.assertNotIsInstance(node, BARRED_NODES, name)
                if isinstance(node, ast.Constant):
                    self.assertNotIsInstance(node.value, (float, complex), name)
                    if isinstance(node.value, str):
                        self.assertNotIn(chr(37), node.value, name)
                if isinstance(node, ast.Compare):
                    for sign, right in zip(node.ops, node.comparators):
                        if isinstance(sign, (ast.Is, ast.IsNot)):
                            self.assertTrue(isinstance(right, ast.Constant) and right.value in (None, True, False))
                if isinstance(node, ast.Call) and isinstance(node.func, ast.Attribute):
                    self.assertIn(node.func.attr, METHODS + own, name)

    def test_iterated_at_once(self):
        takers = ("list", "tuple", "dict", "sorted", "sum", "any", "all", "enumerate", "zip", "min", "max")
        for name, text, tree in self.files:
            allowed = []
            for node in ast.walk(tree):
                if isinstance(node, (ast.For, ast.comprehension)):
                    allowed.append(node.iter)
                if isinstance(node, ast.Call) and isinstance(node.func, ast.Name) and node.func.id in takers:
                    allowed += node.args[:1]
                if isinstance(node, ast.Compare) and isinstance(node.ops[0], (ast.In, ast.NotIn)):
                    allowed += node.comparators
            for node in ast.walk(tree):
                if isinstance(node, ast.Call):
                    called = node.func.id if isinstance(node.func, ast.Name) else node.func.attr
                    if called in ("range", "zip", "enumerate", "reversed", "items", "keys", "values"):
                        self.assertIn(node, allowed, (name, node.lineno))

    def test_sets_stand_in_sorted(self):
        for name, text, tree in self.files:
            allowed = []
            for node in ast.walk(tree):
                if isinstance(node, ast.Call) and isinstance(node.func, ast.Name) and node.func.id in ("sorted", "len"):
                    allowed += node.args
            for node in ast.walk(tree):
                is_call = isinstance(node, ast.Call) and isinstance(node.func, ast.Name) and node.func.id == "set"
                if is_call or isinstance(node, (ast.Set, ast.SetComp)):
                    self.assertIn(node, allowed, (name, node.lineno))

    def test_one_file_defines_each_name(self):
        # Also no two files import from each other: each file comes behind those that it imports from.
        imports = {}
        for name, text, tree in self.files:
            found = [node for node in tree.body if isinstance(node, ast.ImportFrom)]
            imports[name[:-3]] = {node.module.split(".")[1] for node in found}
            for node in found:
                home = [one for file, words, one in self.files if file == node.module.split(".")[1] + ".py"][0]
                bound = [one.name for one in home.body if isinstance(one, (ast.FunctionDef, ast.ClassDef))]
                bound += [one.targets[0].id for one in home.body if isinstance(one, ast.Assign)]
                for alias in node.names:
                    self.assertIn(alias.name, bound)
        while imports:
            first = [name for name in sorted(imports) if not imports[name] & set(imports)]
            self.assertNotEqual(first, [])
            for name in first:
                del imports[name]

    def test_classes(self):
        # No name is a method in one class and an attribute in another; no decorator but that of properties.
        methods, attributes = set(), set()
        for name, text, tree in self.files:
            for node in ast.walk(tree):
                if isinstance(node, ast.FunctionDef):
                    self.assertIn([one.id for one in node.decorator_list], ([], ["property"]), node.name)
                if isinstance(node, ast.ClassDef):
                    self.assertEqual(node.decorator_list, [])
                    methods |= {one.name for one in node.body if isinstance(one, ast.FunctionDef)}
                if isinstance(node, ast.Attribute) and isinstance(node.ctx, ast.Store):
                    attributes.add(node.attr)
        self.assertEqual(methods & attributes, set())
        self.assertEqual(attributes & set(METHODS), set())
        self.assertEqual(methods & set(METHODS), set())
        double = {name for name in methods if name.startswith("_")}
        self.assertLessEqual(double, {"__init__", "__eq__", "__len__", "__enter__", "__exit__"})

    def test_what_leaves_a_with_block(self):
        # Only attributes are assigned there, and only what attributes hold.
        for name, text, tree in self.files:
            for node in ast.walk(tree):
                if isinstance(node, ast.FunctionDef) and node.name == "__exit__":
                    for row in node.body:
                        self.assertIsInstance(row, ast.Assign)
                        self.assertIsInstance(row.targets[0], ast.Attribute)
                        self.assertIsInstance(row.value, ast.Attribute)

    def test_any_and_all_take_lists(self):
        # A package with an own __eq__ passes no generator expression to these.
        for name, text, tree in self.files:
            for node in ast.walk(tree):
                self.assertNotIsInstance(node, ast.GeneratorExp, name)


if __name__ == "__main__":
    unittest.main()
