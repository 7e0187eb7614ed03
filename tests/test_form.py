"""The form of the package: rules of the language subset that can be seen in each file alone."""

import ast
import builtins
import pathlib
import re
import unittest

ROOT = pathlib.Path(__file__).resolve().parent.parent
PACKAGE = ROOT / "orderlymoves"
LIBRARY = {
    "heapq": ("heappush", "heappop", "heapify", "heapreplace", "heappushpop"),
    "math": ("gcd", "lcm", "isqrt", "comb", "perm", "factorial"),
    "itertools": ("product", "combinations", "permutations", "chain", "accumulate", "pairwise", "islice",
                  "zip_longest"),
    "collections": ("defaultdict",),
}
BUILTINS = """len range enumerate zip min max sum abs sorted reversed int str bool bytes list tuple dict set frozenset
isinstance ord repr any all divmod pow getattr hasattr setattr iter next map super property staticmethod classmethod
object Exception ValueError TypeError KeyError IndexError LookupError ZeroDivisionError ArithmeticError OverflowError
RuntimeError NotImplementedError AttributeError StopIteration NotImplemented""".split()
METHODS = """append clear copy count endswith extend find get index insert isalnum isalpha isdigit islower isspace
isupper items join keys ljust lower lstrip partition pop remove replace reverse rfind rjust rpartition rsplit rstrip
setdefault split splitlines startswith strip update upper values zfill bit_length title capitalize swapcase casefold
center expandtabs removeprefix removesuffix rindex isascii isdecimal isnumeric istitle isidentifier isprintable
translate sort add discard format encode decode""".split()
OPERATORS = """lt le gt ge ne add sub mul floordiv mod pow and or xor lshift rshift neg pos invert abs bool contains
getitem setitem init eq repr str len enter exit call iter""".split()
BARRED = ("register", "mro", "elements", "open", "input", "law", "version_info", "with_traceback", "add_note")
WORDS = re.compile(r"\b(type|typing|enum|Enum|IntEnum|Flag|Generic|Protocol|ABC|ABCMeta|namedtuple|NamedTuple|TypedDict|"
                   r"abstractmethod)\b|dataclass|overload|contextmanager")
PLAIN = (ast.Import, ast.ImportFrom, ast.FunctionDef, ast.ClassDef, ast.Assign)


def files():
    return sorted(PACKAGE.rglob("*.py"))


def tree_of(path):
    return ast.parse(path.read_text(encoding="utf-8"))


def nodes(path, *kinds):
    return [node for node in ast.walk(tree_of(path)) if isinstance(node, kinds)]


def is_docstring(node):
    return isinstance(node, ast.Expr) and isinstance(node.value, ast.Constant) and isinstance(node.value.value, str)


def docstrings(path):
    """The nodes of the strings that are docstrings, by their lines and columns."""
    return {(node.value.lineno, node.value.col_offset) for node in nodes(path, ast.Expr) if is_docstring(node)}


def names_bound(path):
    """The names that a file binds at module level, without those that it imports."""
    found = []
    for node in tree_of(path).body:
        if isinstance(node, (ast.FunctionDef, ast.ClassDef)):
            found.append(node.name)
        elif isinstance(node, ast.Assign):
            found.extend(target.id for target in node.targets if isinstance(target, ast.Name))
    return found


def names_used(path):
    """All names of variables, functions, classes, parameters, methods, attributes and keywords in a file."""
    found = [node.id for node in nodes(path, ast.Name)] + [node.attr for node in nodes(path, ast.Attribute)]
    found += [node.name for node in nodes(path, ast.FunctionDef, ast.ClassDef)]
    found += [node.arg for node in nodes(path, ast.arg, ast.keyword) if node.arg]
    return found


class Form(unittest.TestCase):
    def test_files_and_folders(self):
        self.assertTrue(files())
        for path in PACKAGE.rglob("*"):
            if "__pycache__" in path.parts:
                continue
            self.assertRegex(path.name, r"^(__init__|__main__|[a-z][a-z0-9_]*)(\.py)?$")
            self.assertTrue(path.is_dir() or path.suffix == ".py", path)
            if path.is_dir():
                self.assertTrue((path / "__init__.py").is_file(), path)

    def test_characters_and_sizes(self):
        for path in files():
            text = path.read_text(encoding="utf-8")
            self.assertRegex(text, r"\A[ -~\n]*\Z", path)
            self.assertLessEqual(len(text.splitlines()), 399, path)
            for line in text.splitlines():
                self.assertLessEqual(len(line), 120, (path, line))
            for node in nodes(path, ast.FunctionDef):
                self.assertLessEqual(node.end_lineno - node.lineno + 1, 40, (path, node.name))

    def test_module_level(self):
        for path in files():
            found = []
            for node in tree_of(path).body:
                self.assertTrue(isinstance(node, PLAIN) or is_docstring(node), (path, node.lineno))
                if isinstance(node, ast.Assign):
                    self.assertEqual([type(target) for target in node.targets], [ast.Name], (path, node.lineno))
                found += [alias.name for alias in getattr(node, "names", [])]
            found += names_bound(path)
            self.assertEqual(len(found), len(set(found)), path)

    def test_imports(self):
        for path in files():
            self.assertEqual(nodes(path, ast.Import), [], path)
            for node in nodes(path, ast.ImportFrom):
                self.assertEqual(node.level, 0, path)
                if node.module in LIBRARY:
                    bound = LIBRARY[node.module]
                else:
                    self.assertEqual(node.module.split(".")[0], "orderlymoves", path)
                    bound = names_bound(ROOT / (node.module.replace(".", "/") + ".py"))
                used = {name.id for name in nodes(path, ast.Name)}
                for alias in node.names:
                    self.assertIn(alias.name, bound, path)
                    self.assertIn(alias.name, used, path)
                    self.assertIsNone(alias.asname, path)

    def test_no_two_files_import_from_each_other(self):
        behind = {path.relative_to(ROOT).as_posix()[:-3].replace("/", "."):
                  {node.module for node in nodes(path, ast.ImportFrom) if node.module not in LIBRARY}
                  for path in files()}
        while behind:
            free = [module for module in behind if not behind[module] & set(behind)]
            self.assertTrue(free, behind)
            behind = {module: behind[module] for module in behind if module not in free}

    def test_names(self):
        for path in files():
            for name in names_used(path):
                self.assertRegex(name, r"^(_?[A-Za-z][A-Za-z0-9_]*|_|__[a-z]+__)$", path)
                self.assertNotIn(name, BARRED, path)
                if name.startswith("__"):
                    plain = name.strip("_")
                    self.assertTrue(plain in OPERATORS or plain[1:] in OPERATORS or plain in ("class", "name"), name)

    def test_no_builtin_but_those_allowed(self):
        for path in files():
            for node in nodes(path, ast.Name):
                if hasattr(builtins, node.id):
                    self.assertIn(node.id, BUILTINS, (path, node.lineno))
                    self.assertIsInstance(node.ctx, ast.Load, (path, node.lineno))

    def test_no_method_but_those_allowed(self):
        own = {node.name for path in files() for node in nodes(path, ast.FunctionDef)}
        for path in files():
            for node in nodes(path, ast.Call):
                if isinstance(node.func, ast.Attribute):
                    self.assertIn(node.func.attr, own | set(METHODS), (path, node.lineno))

    def test_what_equality_bars(self):
        for path in files():
            self.assertEqual(nodes(path, ast.GeneratorExp), [], path)
            for node in nodes(path, ast.Attribute):
                self.assertNotEqual(node.attr, "sort", (path, node.lineno))

    def test_generators_are_iterated_at_once(self):
        generators = {node.name for path in files() for node in nodes(path, ast.FunctionDef)
                      if any(isinstance(part, (ast.Yield, ast.YieldFrom)) for part in ast.walk(node))}
        for path in files():
            tree = tree_of(path)
            good = [node.iter for node in ast.walk(tree) if isinstance(node, (ast.For, ast.comprehension))]
            good += [node.value for node in ast.walk(tree) if isinstance(node, ast.YieldFrom)]
            good += [node.args[0] for node in ast.walk(tree) if isinstance(node, ast.Call) and node.args
                     and isinstance(node.func, ast.Name) and node.func.id in ("list", "tuple", "dict", "sorted")]
            called = [node.func for node in good if isinstance(node, ast.Call)]
            for node in ast.walk(tree):
                if isinstance(node, ast.Name) and node.id in generators:
                    self.assertIn(node, called, (path, node.lineno))

    def test_no_local_name_is_that_of_a_class_or_an_import(self):
        for path in files():
            apart = {alias.name for node in nodes(path, ast.ImportFrom) for alias in node.names}
            apart |= {node.name for node in nodes(path, ast.ClassDef)}
            for node in nodes(path, ast.FunctionDef, ast.Lambda):
                parts = list(ast.walk(node))
                found = {part.arg for part in parts if isinstance(part, ast.arg)}
                found |= {part.id for part in parts if isinstance(part, ast.Name) and isinstance(part.ctx, ast.Store)}
                self.assertEqual(found & apart, set(), (path, node.lineno))

    def test_names_of_methods_properties_and_attributes(self):
        methods, properties, attributes, generators = [], set(), set(), []
        for path in files():
            for node in nodes(path, ast.ClassDef):
                for part in node.body:
                    if isinstance(part, ast.FunctionDef):
                        is_property = [ast.unparse(found) for found in part.decorator_list] == ["property"]
                        (properties.add if is_property else methods.append)(part.name)
            for node in nodes(path, ast.FunctionDef):
                if any(isinstance(part, (ast.Yield, ast.YieldFrom)) for part in ast.walk(node)):
                    generators.append(node.name)
            attributes |= {node.attr for node in nodes(path, ast.Attribute) if isinstance(node.ctx, ast.Store)}
        self.assertEqual((properties & set(methods), properties & attributes, set(methods) & attributes), (set(),) * 3)
        functions = [node.name for path in files() for node in nodes(path, ast.FunctionDef)]
        for name in generators:
            self.assertEqual((functions.count(name), name in METHODS), (1, False))
        self.assertEqual(properties & set(METHODS), set())

    def test_errors_are_not_caught(self):
        for path in files():
            self.assertEqual(nodes(path, ast.Try), [], path)

    def test_is_stands_beside_none(self):
        for path in files():
            for node in nodes(path, ast.Compare):
                if isinstance(node.ops[0], (ast.Is, ast.IsNot)):
                    self.assertEqual(ast.unparse(node.comparators[0]), "None", (path, node.lineno))

    def test_what_leaving_a_block_does(self):
        for path in files():
            for node in nodes(path, ast.FunctionDef):
                if node.name == "__exit__":
                    for row in node.body:
                        self.assertRegex(ast.unparse(row), r"^(\w+ = self\.\w+|\w+\.\w+ = self\.\w+)$", path)

    def test_keywords_of_builtins(self):
        allowed = ("key", "reverse", "default", "start", "strict")
        for path in files():
            for node in nodes(path, ast.Call):
                if isinstance(node.func, ast.Name) and node.func.id in BUILTINS:
                    found = {part.arg for part in node.keywords}
                    self.assertLessEqual(found, set(allowed), (path, node.lineno))

    def test_statements_and_signs(self):
        for path in files():
            self.assertEqual(nodes(path, ast.Global, ast.AsyncFunctionDef, ast.Await, ast.Div, ast.MatMult), [], path)
            for node in nodes(path, ast.FunctionDef):
                for decorator in node.decorator_list:
                    self.assertRegex(ast.unparse(decorator), r"^(property|staticmethod|classmethod|\w+\.setter)$", path)

    def test_literals(self):
        for path in files():
            apart = docstrings(path)
            for node in nodes(path, ast.Constant):
                self.assertNotIsInstance(node.value, (float, complex), path)
                if isinstance(node.value, str):
                    self.assertNotIn("%", node.value, (path, node.lineno))
                    self.assertNotRegex(node.value, r"^__.*__$", (path, node.lineno))
                    if (node.lineno, node.col_offset) not in apart:
                        self.assertNotRegex(node.value, WORDS, (path, node.lineno))
            for name in names_used(path):
                self.assertNotRegex(name, WORDS, path)


if __name__ == "__main__":
    unittest.main()
