"""The form of the code: what of ../shared/LANGUAGE.md a short reading of the package can see."""

import ast
import unittest
from pathlib import Path

PACKAGE = Path(__file__).parent.parent / "lateledger"
FILES = sorted(PACKAGE.rglob("*.py"))
BUILTINS = """len range enumerate zip min max sum abs sorted reversed int str bool bytes list tuple dict set frozenset isinstance ord
    repr any all divmod Exception ValueError TypeError KeyError IndexError LookupError ZeroDivisionError ArithmeticError
    OverflowError RuntimeError NotImplementedError StopIteration NotImplemented iter next map property classmethod
    staticmethod super""".split()
METHODS = """append clear copy count encode endswith extend find get index insert isalnum isalpha isdigit islower isspace isupper items
    join keys ljust lower lstrip partition pop remove replace reverse rfind rjust rpartition rsplit rstrip setdefault split
    splitlines startswith strip update upper values zfill bit_length""".split()
LIBRARY = {"math": ["gcd", "lcm", "isqrt", "comb", "perm", "factorial"],
           "heapq": ["heappush", "heappop", "heapify", "heapreplace", "heappushpop"]}
DOUBLE = """__init__ __eq__ __repr__ __str__ __len__ __enter__ __exit__ __call__ __iter__ __add__ __radd__ __sub__ __rsub__ __mul__
    __rmul__ __neg__ __contains__ __getitem__ __setitem__ __iadd__""".split()
BARRED = """register mro elements open input law version_info with_traceback add_note attrgetter breakpoint builtins compile
    copyright credits delattr dir eval exec exit gc getattr globals hasattr help id importlib license locals methodcaller os quit
    setattr type vars sys hash round next iter map filter format float print object slice complex bin hex oct pow callable
    memoryview bytearray chr ascii""".split()
WORDS = """typing typing_extensions enum Enum IntEnum StrEnum Flag IntFlag Generic Protocol ABC ABCMeta namedtuple NamedTuple
    TypedDict TYPE_CHECKING abstractmethod""".split()
STATEMENTS = (ast.Expr, ast.Assign, ast.AugAssign, ast.If, ast.While, ast.For, ast.Return, ast.Break, ast.Continue, ast.Pass,
              ast.Raise, ast.Assert, ast.Delete, ast.With, ast.Try, ast.FunctionDef, ast.ClassDef, ast.Import, ast.ImportFrom)


def names_in(target):
    return [node.id for node in ast.walk(target) if isinstance(node, ast.Name)]


class FormTest(unittest.TestCase):
    @classmethod
    def setUpClass(cls):
        cls.texts = {path: path.read_text(encoding="utf-8") for path in FILES}
        cls.trees = {path: ast.parse(text) for path, text in cls.texts.items()}
        cls.nodes = [(path, node) for path, tree in cls.trees.items() for node in ast.walk(tree)]

    def assert_none(self, found):
        self.assertEqual(sorted({str(one) for one in found}), [])

    def all_of(self, *kinds):
        return [(path.name, node) for path, node in self.nodes if isinstance(node, kinds)]

    def test_files(self):
        inside = [path for path in PACKAGE.rglob("*") if "__pycache__" not in path.parts]
        self.assert_none(path for path in inside if path.is_file() and path.suffix != ".py")
        self.assertLessEqual(len(FILES), 100)
        for path, text in self.texts.items():
            self.assertTrue(all(sign == "\n" or " " <= sign <= "~" for sign in text), path)
            lines = text.splitlines()
            self.assertLessEqual(len(lines), 399, path)
            self.assertLessEqual(max(len(line) for line in lines), 120, path)
            self.assertTrue(text.endswith("\n") and not text.endswith("\n\n"), path)
            self.assertFalse(any(line != line.rstrip() for line in lines), path)

    def test_functions_are_short(self):
        self.assert_none((name, node.name) for name, node in self.all_of(ast.FunctionDef)
                         if node.end_lineno - node.lineno + 1 > 40)

    def test_statements(self):
        self.assert_none((name, node.lineno) for name, node in self.all_of(ast.stmt) if not isinstance(node, STATEMENTS))
        self.assert_none((name, node.lineno) for name, node in self.all_of(ast.AugAssign))
        self.assert_none((name, node.lineno) for name, node in self.all_of(
            ast.GeneratorExp, ast.YieldFrom, ast.Await, ast.Global, ast.Import, ast.Match, ast.Lambda))

    def test_the_only_generator(self):
        """It yields in a statement of its own, in no try, and nothing else has its name."""
        found = [(name, node.name) for name, node in self.all_of(ast.FunctionDef)
                 if any(isinstance(part, ast.Yield) for part in ast.walk(node))]
        self.assertEqual(found, [("meet.py", "weavings")])
        self.assertEqual([node.name for _, node in self.all_of(ast.FunctionDef) if node.name == "weavings"], ["weavings"])
        self.assertEqual(len(self.all_of(ast.Yield)), 1)

    def test_what_is_iterated_over_and_left(self):
        """iter stands in an __iter__ of one statement alone; an __exit__ only puts attributes back."""
        found = []
        for name, node in self.all_of(ast.FunctionDef):
            if node.name == "__iter__":
                self.assertEqual(len(node.body), 1, name)
                found += [name] if isinstance(node.body[0], ast.Return) else []
            if node.name == "__exit__":
                for row in node.body:
                    self.assertIsInstance(row, ast.Assign, name)
                    self.assertIsInstance(row.value, ast.Attribute, name)
        self.assertEqual(found, ["log.py"])
        self.assertEqual([name for name, node in self.all_of(ast.Name) if node.id == "iter"], ["log.py"])
        self.assertEqual(LIBRARY.keys() & {"itertools"}, set())

    def test_values(self):
        self.assert_none((name, node.lineno) for name, node in self.all_of(ast.Div, ast.MatMult, ast.Pow))
        self.assert_none((name, node.lineno) for name, node in self.all_of(ast.Constant) if isinstance(node.value, float))
        self.assert_none((name, node.lineno) for name, node in self.all_of(ast.Constant)
                         if isinstance(node.value, str) and "%" in node.value)
        for name, node in self.all_of(ast.Compare):
            for sign, right in zip(node.ops, node.comparators):
                if isinstance(sign, (ast.Is, ast.IsNot)):
                    self.assertTrue(isinstance(right, ast.Constant) and right.value in (None, True, False), (name, node.lineno))

    def test_module_level(self):
        for path, tree in self.trees.items():
            self.assertIsNotNone(ast.get_docstring(tree), path)
            bound = []
            for at, node in enumerate(tree.body):
                if isinstance(node, ast.Assign):
                    self.assertEqual(len(node.targets), 1)
                    ast.literal_eval(node.value)
                    bound.append(node.targets[0].id)
                elif isinstance(node, (ast.FunctionDef, ast.ClassDef)):
                    bound.append(node.name)
                elif isinstance(node, ast.ImportFrom):
                    bound += [alias.name for alias in node.names]
                else:
                    self.assertTrue(isinstance(node, ast.Expr) and at == 0, (path, node.lineno))
            self.assertEqual(len(set(bound)), len(bound), path)
            self.check_imports(path, tree)
            self.check_locals(path, tree)

    def check_imports(self, path, tree):
        used = {node.id for node in ast.walk(tree) if isinstance(node, ast.Name)}
        for node in tree.body:
            if isinstance(node, ast.ImportFrom):
                self.assertEqual(node.level, 0)
                for alias in node.names:
                    self.assertIsNone(alias.asname)
                    self.assertIn(alias.name, used, path)
                    if node.module in LIBRARY:
                        self.assertIn(alias.name, LIBRARY[node.module])
                    else:
                        home = self.trees[PACKAGE / (node.module.partition(".")[2] + ".py")]
                        self.assertIn(alias.name, [part.name for part in home.body if hasattr(part, "name")] + [
                            part.targets[0].id for part in home.body if isinstance(part, ast.Assign)])

    def check_locals(self, path, tree):
        """No parameter or local variable has the name of a class or an import of its file, or of a builtin."""
        taken = [node.name for node in tree.body if isinstance(node, ast.ClassDef)]
        taken += [alias.name for node in tree.body if isinstance(node, ast.ImportFrom) for alias in node.names]
        for node in ast.walk(tree):
            if isinstance(node, ast.arg):
                self.assertNotIn(node.arg, taken + BUILTINS + BARRED, path)
            if isinstance(node, ast.Name) and isinstance(node.ctx, ast.Store):
                self.assertNotIn(node.id, taken + BUILTINS + BARRED, (path, node.lineno))
            if isinstance(node, (ast.FunctionDef, ast.ClassDef)):
                self.assertNotIn(node.name, BUILTINS + BARRED, path)
                self.assertNotIn(node.name.lower(), WORDS)

    def test_no_circles_of_imports(self):
        ahead = {}
        for path, tree in self.trees.items():
            ahead[path.stem] = [node.module.partition(".")[2] for node in tree.body
                                if isinstance(node, ast.ImportFrom) and node.module not in LIBRARY]
        done = []
        while len(done) < len(ahead):
            ready = [name for name in ahead if name not in done and all(one in done for one in ahead[name])]
            self.assertNotEqual(ready, [], "a circle of imports")
            done += ready

    def test_calls_of_builtins_and_methods(self):
        own_methods = [node.name for _, node in self.all_of(ast.FunctionDef)]
        for path, tree in self.trees.items():
            known = BUILTINS + [node.name for node in tree.body if hasattr(node, "name")]
            known += [alias.name for node in tree.body if isinstance(node, ast.ImportFrom) for alias in node.names]
            # A function that is passed is called by the name of its parameter.
            known += ["cls"] + (["action"] if path.name == "desk.py" else [])
            for node in ast.walk(tree):
                if isinstance(node, ast.Call) and isinstance(node.func, ast.Name):
                    self.assertIn(node.func.id, known, (path, node.lineno))
                if isinstance(node, ast.Call) and isinstance(node.func, ast.Attribute):
                    self.assertIn(node.func.attr, METHODS + own_methods, (path, node.lineno))

    def test_what_is_iterated_at_once(self):
        """Views, ranges and zips stand in loops or are passed straight on; any, all and their kin take lists."""
        for path, tree in self.trees.items():
            right = set()
            for node in ast.walk(tree):
                if isinstance(node, (ast.For, ast.comprehension)):
                    right.add(id(node.iter))
                if isinstance(node, ast.Call) and isinstance(node.func, ast.Name) and node.func.id in (
                        "list", "tuple", "dict", "sorted", "sum", "any", "all", "enumerate", "zip", "min", "max", "reversed"):
                    right.update(id(part) for part in node.args)
            for node in ast.walk(tree):
                if isinstance(node, ast.Call):
                    view = isinstance(node.func, ast.Attribute) and node.func.attr in ("items", "keys", "values")
                    made = isinstance(node.func, ast.Name) and node.func.id in ("zip", "enumerate", "reversed", "range")
                    self.assertTrue(id(node) in right or not (view or made), (path, node.lineno))
                if isinstance(node, ast.SetComp):
                    self.assertIn(id(node), right, (path, node.lineno))

    def test_names(self):
        for path, node in self.nodes:
            told = []
            if isinstance(node, ast.Attribute):
                told = [node.attr]
            elif isinstance(node, ast.Name):
                told = [node.id] if node.id != "iter" else []
            elif isinstance(node, (ast.FunctionDef, ast.ClassDef)):
                told = [node.name]
            for name in told:
                self.assertTrue(name in DOUBLE or not name.startswith("__"), (path, name))
                self.assertNotIn(name, BARRED, path)
                self.assertNotIn(name, WORDS, path)
                self.assertNotIn("_wall", name)

    def test_classes(self):
        properties, methods, others = [], [], []
        for name, node in self.all_of(ast.ClassDef):
            self.assertEqual(node.decorator_list, [])
            self.assertTrue(node.name[0].isalpha(), node.name)
            inside = [part.name for part in node.body if isinstance(part, ast.FunctionDef)]
            self.assertEqual(len(set(inside)), len(inside), node.name)
            stored = {part.attr for part in ast.walk(node) if isinstance(part, ast.Attribute) and isinstance(part.ctx, ast.Store)}
            self.assert_none((node.name, one) for one in stored if one in inside)
            if "__getitem__" in inside:
                self.assertIn("__iter__", inside)
            for part in node.body:
                if isinstance(part, ast.FunctionDef):
                    marks = [mark.id for mark in part.decorator_list]
                    self.assertTrue(set(marks) <= {"property", "classmethod", "staticmethod"})
                    if part.name.startswith("__"):
                        self.assertIn(part.name, DOUBLE)
                    (properties if marks == ["property"] else others if marks else methods).append(part.name)
        self.assert_none(one for one in properties + others if one in methods or one in METHODS)
        self.assertEqual(len(set(others)), len(others))

    def test_no_attribute_has_the_name_of_a_method(self):
        methods, stored = set(), set()
        for _, node in self.all_of(ast.ClassDef):
            methods.update(part.name for part in node.body if isinstance(part, ast.FunctionDef))
            stored.update(part.attr for part in ast.walk(node) if isinstance(part, ast.Attribute)
                          and isinstance(part.ctx, ast.Store))
        self.assert_none(methods & stored)

    def test_what_is_reversed(self):
        """A package with __getitem__ reverses only ranges, and what is plainly a list."""
        for name, node in self.all_of(ast.Call):
            if isinstance(node.func, ast.Name) and node.func.id == "reversed":
                self.assertEqual(node.args[0].func.id, "range", (name, node.lineno))

    def test_tables_are_only_read(self):
        """A dict or list at module level is indexed, asked with `in`, or iterated over; it is not passed on."""
        tables = {node.targets[0].id for tree in self.trees.values() for node in tree.body
                  if isinstance(node, ast.Assign) and isinstance(node.value, (ast.Dict, ast.List))}
        self.assertIn("COMMANDS", tables)
        for path, tree in self.trees.items():
            right = set()
            for node in ast.walk(tree):
                if isinstance(node, ast.Subscript):
                    right.add(id(node.value))
                if isinstance(node, ast.Compare):
                    right.update(id(part) for part in node.comparators)
                if isinstance(node, (ast.For, ast.comprehension)):
                    right.add(id(node.iter))
                if isinstance(node, ast.Assign):
                    right.update(id(part) for part in node.targets)
            for node in ast.walk(tree):
                if isinstance(node, ast.Name) and node.id in tables:
                    self.assertIn(id(node), right, (path, node.lineno))

    def test_functions_are_explained(self):
        """Each public function and method has a docstring, but for those of Python's own names."""
        self.assert_none((name, node.name) for name, node in self.all_of(ast.FunctionDef)
                         if not node.name.startswith("_") and ast.get_docstring(node) is None)

    def test_double_underscore_methods_only_return(self):
        for name, node in self.all_of(ast.FunctionDef):
            if node.name in ("__eq__", "__repr__", "__str__", "__len__"):
                self.assertIsInstance(node.body[-1], ast.Return, name)
                self.assertFalse(any(isinstance(part, (ast.Assign, ast.Delete)) for part in ast.walk(node)), name)

    def test_no_default_is_changed(self):
        for name, node in self.all_of(ast.arguments):
            for default in node.defaults + [one for one in node.kw_defaults if one]:
                self.assertTrue(isinstance(ast.literal_eval(default), (int, str, tuple, type(None))), name)


if __name__ == "__main__":
    unittest.main()
