"""The package's files keep to the part of Python that LANGUAGE.md tells.

Only what a walk over the files can see for certain is checked here.
"""

import ast
import builtins
import pathlib
import re
import unittest

import leastbook

FOLDER = pathlib.Path(leastbook.__file__).resolve().parent

OWN_NAMES = """len range enumerate zip min max sum abs sorted reversed int str bool list tuple dict
    set frozenset isinstance ord repr any all divmod Exception ValueError TypeError KeyError IndexError
    LookupError ZeroDivisionError ArithmeticError OverflowError RuntimeError NotImplementedError
    StopIteration AttributeError""".split()
METHODS = """append clear copy count endswith extend find get index insert isalnum isalpha isdigit
    islower isspace isupper items join keys ljust lower lstrip partition pop remove replace reverse
    rfind rjust rpartition rsplit rstrip setdefault split splitlines startswith strip update upper
    values zfill bit_length""".split()
BANNED_NAMES = """register mro elements open input version_info with_traceback add_note attrgetter
    breakpoint builtins compile copyright credits delattr dir eval exec exit gc getattr globals hasattr
    help id importlib license locals methodcaller os quit setattr super type vars sys chr format
    format_map""".split()
BANNED_WORDS = """type typing typing_extensions enum Enum IntEnum StrEnum Flag IntFlag Generic Protocol
    ABC ABCMeta namedtuple NamedTuple TypedDict TYPE_CHECKING abstractmethod""".split()
BANNED_PARTS = ["dataclass", "overload", "contextmanager"]
BANNED_FILES = ["test", "tests", "testing", "site", "conftest", "sitecustomize", "usercustomize"]
CLASS_METHODS = ["__init__", "__eq__", "__repr__", "__str__", "__len__"]
WALKED = ["zip", "enumerate", "reversed", "range", "items", "keys", "values"]
WALKERS = ["list", "tuple", "dict", "sorted", "sum", "any", "all", "enumerate", "zip", "min", "max", "join"]

STATEMENTS = (ast.FunctionDef, ast.ClassDef, ast.Assign, ast.AugAssign, ast.If, ast.While, ast.For,
              ast.Return, ast.Break, ast.Continue, ast.Pass, ast.Raise, ast.Try, ast.Expr, ast.ImportFrom)
EXPRESSIONS = (ast.Constant, ast.List, ast.Tuple, ast.Dict, ast.Set, ast.BinOp, ast.UnaryOp, ast.BoolOp,
               ast.Compare, ast.IfExp, ast.Call, ast.Attribute, ast.Subscript, ast.Slice, ast.ListComp,
               ast.JoinedStr, ast.FormattedValue, ast.Name, ast.Lambda)


def package_files():
    return sorted(path for path in FOLDER.rglob("*") if "__pycache__" not in path.parts)


def trees():
    return {path: ast.parse(path.read_text("utf-8")) for path in package_files() if path.suffix == ".py"}


def is_docstring(node):
    return isinstance(node.value, ast.Constant) and isinstance(node.value.value, str)


def called_name(call):
    if isinstance(call.func, ast.Name):
        return call.func.id
    return call.func.attr if isinstance(call.func, ast.Attribute) else ""


def parameters(function):
    return [argument.arg for argument in function.args.args]


def top_names(tree):
    names = []
    for node in tree.body:
        if isinstance(node, (ast.FunctionDef, ast.ClassDef)):
            names.append(node.name)
        elif isinstance(node, ast.Assign):
            names += [target.id for target in node.targets if isinstance(target, ast.Name)]
    return names


def imported_names(tree):
    return [alias.asname or alias.name for node in tree.body if isinstance(node, ast.ImportFrom)
            for alias in node.names]


def local_names(function):
    names = list(parameters(function))
    for node in ast.walk(function):
        if isinstance(node, ast.Name) and isinstance(node.ctx, ast.Store):
            names.append(node.id)
    return names


class FilesTest(unittest.TestCase):
    def test_names_of_files(self):
        self.assertEqual(FOLDER.name, "leastbook")
        self.assertTrue((FOLDER / "__init__.py").is_file())
        for path in package_files():
            if path.is_dir():
                self.assertTrue((path / "__init__.py").is_file(), path)
                continue
            self.assertEqual(path.suffix, ".py", path)
            self.assertRegex(path.stem, r"^(__init__|__main__|[a-z][a-z0-9_]*)$")
            self.assertNotIn(path.stem, BANNED_FILES + BANNED_WORDS + dir(builtins))
            self.assertFalse(path.stem.startswith("test_"), path)

    def test_signs_and_sizes(self):
        for path in trees():
            text = path.read_bytes().decode("utf-8")
            self.assertEqual(re.findall(r"[^ -~\n]", text), [], path)
            lines = text.split("\n")
            self.assertLessEqual(len(lines), 401, path)
            self.assertLessEqual(max(len(line) for line in lines), 120, path)

    def test_functions_have_at_most_forty_lines(self):
        for path, tree in trees().items():
            for node in ast.walk(tree):
                if isinstance(node, ast.FunctionDef):
                    self.assertLessEqual(node.end_lineno - node.lineno + 1, 40, (path, node.name))

    def test_words_that_stand_nowhere(self):
        for path in trees():
            text = path.read_text("utf-8")
            words = re.findall(r"[A-Za-z0-9_]+", text)
            self.assertEqual([found for found in words if found in BANNED_WORDS], [], path)
            for part in BANNED_PARTS:
                self.assertNotIn(part, text, path)


class ImportsTest(unittest.TestCase):
    def test_only_names_from_the_files_that_define_them(self):
        defined = {path.relative_to(FOLDER.parent).with_suffix("").as_posix().replace("/", "."):
                   top_names(tree) for path, tree in trees().items()}
        for path, tree in trees().items():
            for node in ast.walk(tree):
                self.assertNotIsInstance(node, ast.Import, path)
                if isinstance(node, ast.ImportFrom) and node.module != "__future__":
                    self.assertIn(node, tree.body, path)
                    self.assertEqual(node.level, 0, path)
                    self.assertIn(node.module, defined, path)
                    for alias in node.names:
                        self.assertIn(alias.name, defined[node.module], path)

    def test_no_two_files_draw_from_one_another(self):
        drawn = {"leastbook." + path.stem:
                 [node.module for node in tree.body if isinstance(node, ast.ImportFrom)]
                 for path, tree in trees().items()}
        while drawn:
            free = [name for name in drawn if not any(other in drawn for other in drawn[name])]
            self.assertTrue(free, drawn)
            for name in free:
                drawn.pop(name)


class FormTest(unittest.TestCase):
    def walk(self):
        for path, tree in trees().items():
            for node in ast.walk(tree):
                yield (path.name, getattr(node, "lineno", 0)), node

    def test_top_of_files(self):
        for path, tree in trees().items():
            for number, node in enumerate(tree.body):
                allowed = (ast.ImportFrom, ast.FunctionDef, ast.ClassDef, ast.Assign)
                if not (number == 0 and isinstance(node, ast.Expr) and is_docstring(node)):
                    self.assertIsInstance(node, allowed, (path.name, node.lineno))
                if isinstance(node, ast.Assign):
                    self.assertIsInstance(node.targets[0], ast.Name, (path.name, node.lineno))
                    for part in ast.walk(node.value):
                        self.assertNotIsInstance(part, (ast.Call, ast.BinOp, ast.ListComp, ast.Set))
            bound = top_names(tree) + imported_names(tree)
            self.assertEqual(len(bound), len(set(bound)), path.name)

    def test_statements(self):
        for place, node in self.walk():
            if isinstance(node, ast.stmt):
                self.assertIsInstance(node, STATEMENTS, place)
            if isinstance(node, ast.Expr):
                self.assertTrue(isinstance(node.value, ast.Call) or is_docstring(node), place)
            if isinstance(node, ast.Assign):
                self.assertEqual(len(node.targets), 1, place)
            if isinstance(node, (ast.For, ast.While)):
                self.assertEqual(node.orelse, [], place)
            if isinstance(node, ast.Try):
                self.assertEqual(node.finalbody, [], place)
            if isinstance(node, ast.Raise):
                self.assertIsInstance(node.exc, ast.Call, place)
            if isinstance(node, ast.ExceptHandler):
                self.assertIsNotNone(node.type, place)
                caught = [part.id for part in ast.walk(node.type) if isinstance(part, ast.Name)]
                self.assertEqual([name for name in caught if name in ("Exception", "TypeError")], [], place)

    def test_expressions(self):
        for place, node in self.walk():
            if isinstance(node, ast.expr):
                self.assertIsInstance(node, EXPRESSIONS, place)
            if isinstance(node, ast.ListComp):
                self.assertEqual(len(node.generators), 1, place)
                self.assertLessEqual(len(node.generators[0].ifs), 1, place)
            if isinstance(node, ast.FormattedValue):
                self.assertIsInstance(node.value, ast.Name, place)
                self.assertIsNone(node.format_spec, place)
                self.assertIn(node.conversion, (-1, ord("r")), place)
            if isinstance(node, ast.operator):
                self.assertNotIsInstance(node, (ast.Div, ast.MatMult), place)
            if isinstance(node, ast.BinOp) and isinstance(node.op, ast.Pow):
                self.assertIsInstance(node.right, ast.Constant, place)
                self.assertIn(node.right.value, range(65), place)

    def test_values_and_texts(self):
        for place, node in self.walk():
            if isinstance(node, ast.Constant):
                self.assertIn(type(node.value), (int, str, bool, type(None)), place)
                if isinstance(node.value, str):
                    self.assertNotIn("%", node.value, place)
            if isinstance(node, ast.Compare):
                for operator, side in zip(node.ops, node.comparators):
                    if isinstance(operator, (ast.Is, ast.IsNot)):
                        self.assertIsInstance(side, ast.Constant, place)
                        self.assertTrue(side.value is None or type(side.value) is bool, place)

    def test_functions_and_classes(self):
        for place, node in self.walk():
            if isinstance(node, (ast.FunctionDef, ast.Lambda)):
                given = node.args
                self.assertEqual((given.vararg, given.kwarg, given.kwonlyargs, given.posonlyargs),
                                 (None, None, [], []), place)
            if isinstance(node, (ast.FunctionDef, ast.ClassDef)):
                self.assertEqual(node.decorator_list, [], place)
            if isinstance(node, ast.ClassDef):
                self.assertLessEqual(len(node.bases), 1, place)
                self.assertEqual(node.keywords, [], place)
                for part in node.body:
                    if not (isinstance(part, ast.Expr) and is_docstring(part)):
                        self.assertIsInstance(part, (ast.FunctionDef, ast.Pass), place)

    def test_what_is_walked_at_once(self):
        for path, tree in trees().items():
            walked_here = []
            for node in ast.walk(tree):
                if isinstance(node, (ast.For, ast.comprehension)):
                    walked_here.append(node.iter)
                if isinstance(node, ast.Call) and called_name(node) in WALKERS:
                    walked_here += node.args
            for node in ast.walk(tree):
                if isinstance(node, ast.Call) and called_name(node) in WALKED:
                    self.assertIn(node, walked_here, (path.name, node.lineno))

    def test_sets_are_asked_on_the_spot(self):
        for path, tree in trees().items():
            asked = []
            for node in ast.walk(tree):
                if isinstance(node, ast.Compare):
                    asked += [node.left] + node.comparators
                if isinstance(node, ast.Call) and called_name(node) in ("sorted", "len"):
                    asked += node.args
                if isinstance(node, ast.BinOp):
                    asked += [node.left, node.right]
            for node in ast.walk(tree):
                if isinstance(node, ast.Call) and called_name(node) in ("set", "frozenset"):
                    self.assertIn(node, asked, (path.name, node.lineno))


class NamesTest(unittest.TestCase):
    def test_names_are_plain(self):
        for path, tree in trees().items():
            for node in ast.walk(tree):
                names = []
                if isinstance(node, ast.Name):
                    names = [node.id]
                elif isinstance(node, ast.FunctionDef):
                    names = parameters(node) + ([] if node.name in CLASS_METHODS else [node.name])
                elif isinstance(node, ast.Attribute) and node.attr not in CLASS_METHODS:
                    names = [node.attr]
                for name in names:
                    self.assertRegex(name, r"^[A-Za-z][A-Za-z0-9_]*$", (path.name, node.lineno))
                    self.assertNotIn(name, BANNED_NAMES, (path.name, node.lineno))

    def test_only_pythons_listed_names(self):
        for path, tree in trees().items():
            for node in ast.walk(tree):
                if isinstance(node, ast.Name) and node.id in dir(builtins):
                    self.assertIn(node.id, OWN_NAMES, (path.name, node.lineno))

    def test_parameters_and_locals_hide_nothing(self):
        for path, tree in trees().items():
            taken = imported_names(tree) + dir(builtins)
            taken += [node.name for node in tree.body if isinstance(node, ast.ClassDef)]
            for node in ast.walk(tree):
                if isinstance(node, ast.FunctionDef):
                    for name in local_names(node):
                        self.assertNotIn(name, taken, (path.name, node.name))

    def test_methods_and_values(self):
        own_methods, own_values = [], []
        for tree in trees().values():
            for node in ast.walk(tree):
                if isinstance(node, ast.ClassDef):
                    own_methods += [part.name for part in node.body if isinstance(part, ast.FunctionDef)]
                if isinstance(node, ast.Attribute) and isinstance(node.ctx, ast.Store):
                    own_values.append(node.attr)
        self.assertEqual([name for name in own_methods if name in own_values], [])
        for path, tree in trees().items():
            for node in ast.walk(tree):
                if isinstance(node, ast.Attribute):
                    self.assertIn(node.attr, METHODS + CLASS_METHODS + own_methods + own_values,
                                  (path.name, node.lineno))

    def test_keywords_of_pythons_own(self):
        allowed = {"sorted": ["key", "reverse"], "min": ["key", "default"], "max": ["key", "default"],
                   "sum": ["start"], "enumerate": ["start"], "zip": ["strict"]}
        for path, tree in trees().items():
            for node in ast.walk(tree):
                if isinstance(node, ast.Call) and called_name(node) in OWN_NAMES + METHODS:
                    for given in node.keywords:
                        self.assertIn(given.arg, allowed.get(called_name(node), []), (path.name, node.lineno))


if __name__ == "__main__":
    unittest.main()
