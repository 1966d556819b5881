"""The rules of the language that a look at the code can tell, over all files of the package."""

import ast
import builtins
import re
import unittest
from pathlib import Path

PACKAGE = Path(__file__).resolve().parent.parent / "freelots"
FILES = sorted(path for path in PACKAGE.rglob("*") if path.is_file() and "__pycache__" not in path.parts)

BUILTINS = set("""len range enumerate zip min max sum abs sorted reversed int str bool list tuple dict set
    isinstance ord repr any all divmod pow super property classmethod staticmethod
    Exception ValueError TypeError KeyError IndexError LookupError ZeroDivisionError NotImplemented""".split())
LIBRARY = {"heapq": {"heappush", "heappop", "heapify"}, "math": {"gcd", "lcm", "isqrt", "comb"},
           "itertools": {"product", "combinations", "permutations", "chain", "pairwise", "accumulate"}}
METHODS = set("""append clear copy count endswith extend find get index insert isalnum isalpha isdigit islower
    isspace isupper items join keys ljust lower lstrip partition pop remove replace reverse rfind rjust rpartition
    rsplit rstrip setdefault split splitlines startswith strip update upper values zfill bit_length isascii
    isdecimal removeprefix removesuffix add discard""".split())
# Taken here, since doctest puts a `_` among the builtins while the tests run.
ALL_BUILTINS = set(vars(builtins)) - {"_"}
DOUBLE = {"__init__", "__eq__", "__len__", "__str__", "__repr__"}
WORDS = re.compile(r"\b(type|typing|enum|Enum|namedtuple|Flag|Generic|Protocol|ABC|abstractmethod)\b|dataclass"
                   r"|overload|contextmanager|_wall\b|_WallAttr")
NOT_NAMES = set("""register mro elements open input law version_info with_traceback add_note attrgetter breakpoint
    builtins compile copyright credits delattr dir eval exec exit gc globals help id importlib license locals
    methodcaller os quit setattr vars sys iter next _record _outside _cold""".split())
KINDS = (ast.Global, ast.AsyncFunctionDef, ast.AsyncFor, ast.AsyncWith, ast.Await, ast.GeneratorExp, ast.Div,
         ast.MatMult, ast.Import, ast.Yield, ast.YieldFrom, ast.Match, ast.Lambda, ast.Set)


def stripped(source, tree):
    """Return a source without its comments and docstrings."""
    for node in ast.walk(tree):
        if isinstance(node, (ast.Module, ast.ClassDef, ast.FunctionDef)) and ast.get_docstring(node) is not None:
            node.body[0].value.value = ""
    return ast.unparse(tree)


def bound_names(tree):
    """Return the names that a file binds: parameters, variables, functions, classes and imports."""
    for node in ast.walk(tree):
        if isinstance(node, (ast.FunctionDef, ast.ClassDef)):
            yield node.name
        elif isinstance(node, ast.arg):
            yield node.arg
        elif isinstance(node, ast.alias):
            yield node.asname or node.name
        elif isinstance(node, ast.Name) and not isinstance(node.ctx, ast.Load):
            yield node.id


class LanguageTest(unittest.TestCase):

    @classmethod
    def setUpClass(cls):
        cls.sources = {path: path.read_text(encoding="utf-8") for path in FILES}
        cls.trees = {path: ast.parse(source) for path, source in cls.sources.items()}
        cls.own = {node.name for tree in cls.trees.values() for node in ast.walk(tree)
                   if isinstance(node, (ast.FunctionDef, ast.ClassDef))}

    def test_files(self):
        self.assertIn(PACKAGE / "__init__.py", FILES)
        for path in FILES:
            self.assertRegex(path.name, r"\A[a-z0-9_]+\.py\Z")

    def test_sizes_and_characters(self):
        for path, source in self.sources.items():
            self.assertRegex(source, r"\A[ -~\n]*\Z", path)
            self.assertLessEqual(source.count("\n"), 399, path)
            self.assertLessEqual(max(map(len, source.split("\n"))), 120, path)
            for node in ast.walk(self.trees[path]):
                if isinstance(node, ast.FunctionDef):
                    self.assertLessEqual(node.end_lineno - node.lineno + 1, 40, (path, node.name))

    def test_imports(self):
        for path, tree in self.trees.items():
            ahead = True
            for node in tree.body:
                if isinstance(node, ast.ImportFrom):
                    self.assertTrue(ahead and node.level == 0, path)
                    names = {alias.name for alias in node.names if alias.asname is None}
                    self.assertEqual(len(names), len(node.names))
                    if node.module in LIBRARY:
                        self.assertLessEqual(names, LIBRARY[node.module])
                    else:
                        self.assertTrue(node.module.startswith("freelots."), path)
                        self.assertLessEqual(names, self.defined(PACKAGE / (node.module[9:] + ".py")), path)
                elif not isinstance(node, ast.Expr):
                    ahead = False

    def defined(self, path):
        body = self.trees[path].body
        names = {node.name for node in body if isinstance(node, (ast.FunctionDef, ast.ClassDef))}
        return names | {node.targets[0].id for node in body if isinstance(node, ast.Assign)}

    def test_each_import_is_used(self):
        for path, tree in self.trees.items():
            used = {node.id for node in ast.walk(tree) if isinstance(node, ast.Name)}
            names = {alias.name for node in tree.body if isinstance(node, ast.ImportFrom) for alias in node.names}
            self.assertLessEqual(names, used, path)

    def test_no_circles(self):
        left = {path.stem: {node.module[9:] for node in tree.body if isinstance(node, ast.ImportFrom)
                            and node.module not in LIBRARY} for path, tree in self.trees.items()}
        while left:
            plain = [name for name, needs in left.items() if not needs & set(left)]
            self.assertTrue(plain, left)
            left = {name: needs for name, needs in left.items() if name not in plain}

    def test_module_level(self):
        for path, tree in self.trees.items():
            names = []
            for node in tree.body:
                self.assertIsInstance(node, (ast.Expr, ast.ImportFrom, ast.FunctionDef, ast.ClassDef, ast.Assign))
                if isinstance(node, ast.Assign):
                    ast.literal_eval(node.value)
                    names.append(node.targets[0].id)
                elif isinstance(node, ast.ImportFrom):
                    names += [alias.name for alias in node.names]
                elif not isinstance(node, ast.Expr):
                    names.append(node.name)
            self.assertEqual(len(names), len(set(names)), path)

    def test_statements_and_expressions(self):
        for path, tree in self.trees.items():
            for node in ast.walk(tree):
                self.assertNotIsInstance(node, KINDS, path)
                if isinstance(node, ast.Constant):
                    self.assertNotIsInstance(node.value, (float, complex, bytes))
                    self.assertNotIn("%", str(node.value))
                if isinstance(node, ast.Call):
                    self.assertFalse([word for word in node.keywords if word.arg is None], path)

    def test_names(self):
        for path, tree in self.trees.items():
            for name in bound_names(tree):
                if name.startswith("__"):
                    self.assertIn(name, DOUBLE)
                    continue
                self.assertNotIn(name, ALL_BUILTINS, path)
                self.assertNotIn(name, NOT_NAMES, path)
            for node in ast.walk(tree):
                if isinstance(node, ast.Name) and node.id in ALL_BUILTINS:
                    self.assertIn(node.id, BUILTINS, path)

    def test_no_variable_has_the_name_of_a_class_or_an_import(self):
        for path, tree in self.trees.items():
            taken = {node.name for node in tree.body if isinstance(node, ast.ClassDef)}
            taken |= {alias.name for node in tree.body if isinstance(node, ast.ImportFrom) for alias in node.names}
            for node in ast.walk(tree):
                if isinstance(node, ast.arg):
                    self.assertNotIn(node.arg, taken, path)
                elif isinstance(node, ast.Name) and not isinstance(node.ctx, ast.Load):
                    self.assertNotIn(node.id, taken, path)

    def test_no_loop_changes_what_it_goes_over(self):
        changing = {"append", "clear", "extend", "insert", "pop", "remove", "reverse", "setdefault", "update", "add",
                    "discard"}
        for path, tree in self.trees.items():
            for loop in [node for node in ast.walk(tree) if isinstance(node, ast.For)]:
                over = {ast.unparse(node) for node in self.gone_over(loop.iter)}
                for node in [node for part in loop.body for node in ast.walk(part)]:
                    if isinstance(node, ast.Subscript) and not isinstance(node.ctx, ast.Load):
                        self.assertNotIn(ast.unparse(node.value), over, (path, loop.lineno))
                    if isinstance(node, ast.Attribute) and node.attr in changing:
                        self.assertNotIn(ast.unparse(node.value), over, (path, loop.lineno))

    def gone_over(self, node):
        """Return the names and attributes that a loop goes over, straight or through zip, enumerate and the like."""
        if isinstance(node, (ast.Name, ast.Attribute)):
            return [node]
        if isinstance(node, ast.IfExp):
            return self.gone_over(node.body) + self.gone_over(node.orelse)
        if isinstance(node, ast.Call) and isinstance(node.func, ast.Attribute):
            return self.gone_over(node.func.value)
        if isinstance(node, ast.Call) and node.func.id in ("zip", "enumerate", "reversed"):
            return [part for passed in node.args for part in self.gone_over(passed)]
        return []

    def test_no_method_is_an_attribute(self):
        for path, tree in self.trees.items():
            for kind in [node for node in tree.body if isinstance(node, ast.ClassDef)]:
                methods = [node.name for node in kind.body if isinstance(node, ast.FunctionDef)]
                assigned = {node.attr for node in ast.walk(kind)
                            if isinstance(node, ast.Attribute) and not isinstance(node.ctx, ast.Load)}
                self.assertEqual(len(methods), len(set(methods)), path)
                self.assertFalse(assigned & set(methods), path)

    def test_words(self):
        for path, source in self.sources.items():
            self.assertIsNone(WORDS.search(stripped(source, ast.parse(source))), path)

    def test_methods(self):
        for path, tree in self.trees.items():
            for node in ast.walk(tree):
                if isinstance(node, ast.Call) and isinstance(node.func, ast.Attribute):
                    name = node.func.attr
                    self.assertTrue(name in METHODS or name in self.own, (path, name))

    def test_no_method_that_asks_for_more(self):
        for path, tree in self.trees.items():
            for node in ast.walk(tree):
                if isinstance(node, ast.Attribute):
                    self.assertNotIn(node.attr, ("sort", "format", "translate"), path)


if __name__ == "__main__":
    unittest.main()
