"""The rules of the subset of Python that can be told from the text of the package."""

import ast
import builtins
import pathlib
import unittest

FOLDER = pathlib.Path(__file__).parent.parent / "cellyards"
BUILTINS = """
    len range enumerate zip min max sum abs sorted reversed int str bool bytes list tuple dict set
    frozenset isinstance ord repr any all divmod pow getattr hasattr setattr iter next map
    Exception ValueError TypeError KeyError IndexError LookupError ZeroDivisionError ArithmeticError
    OverflowError RuntimeError NotImplementedError AttributeError StopIteration NotImplemented
    property staticmethod classmethod super type
""".split()
LIBRARY = {
    "heapq": "heappush heappop heapify heapreplace heappushpop",
    "math": "gcd lcm isqrt comb perm factorial",
    # No products: a class is iterated over and has a length.
    "itertools": "chain accumulate pairwise islice zip_longest",
    "collections": "defaultdict deque",
}
DOUBLE_UNDERSCORES = """
    __init__ __eq__ __repr__ __str__ __len__ __enter__ __exit__ __call__ __iter__ __lt__ __le__
    __gt__ __ge__ __ne__ __add__ __sub__ __mul__ __contains__ __getitem__ __setitem__ __bool__
""".split()
WORDS = """
    typing enum Enum namedtuple NamedTuple dataclass overload contextmanager abstractmethod
    Generic Protocol ABC TypedDict _wall _WallAttr
""".split()
NO_NAMES = """
    register mro elements open input law version_info with_traceback add_note attrgetter breakpoint
    builtins compile copyright credits delattr dir eval exec exit gc getattr globals hasattr help id
    importlib license locals methodcaller os quit setattr super type vars sys
""".split()
METHODS = """
    append clear copy count endswith extend find get index insert isalnum isalpha isdigit islower
    isspace isupper items join keys ljust lower lstrip partition pop remove replace reverse rfind
    rjust rpartition rsplit rstrip setdefault split splitlines startswith strip update upper values
    zfill bit_length add discard sort appendleft popleft extendleft rotate
""".split()


def texts():
    return {path.name: path.read_bytes().decode() for path in sorted(FOLDER.glob("*.py"))}


def trees():
    return {name: ast.parse(text) for name, text in texts().items()}


def nodes():
    return [(name, node) for name, tree in trees().items() for node in ast.walk(tree)]


class TestLanguage(unittest.TestCase):
    def test_files(self):
        for path in FOLDER.iterdir():
            if path.name != "__pycache__":
                self.assertRegex(path.name, r"^[a-z_][a-z0-9_]*\.py$")
        for name, text in texts().items():
            self.assertRegex(text, r"\A[ -~\n]*\Z", name)
            self.assertLessEqual(len(text.splitlines()), 399, name)
            self.assertLessEqual(max([len(line) for line in text.splitlines()]), 120, name)

    def test_functions_are_small(self):
        for name, node in nodes():
            if isinstance(node, ast.FunctionDef):
                self.assertLessEqual(node.end_lineno - node.lineno + 1, 40, (name, node.name))

    def test_imports_name_the_file_that_defines_the_name(self):
        for name, node in nodes():
            self.assertNotIsInstance(node, ast.Import, name)
            if isinstance(node, ast.ImportFrom):
                self.assertEqual(node.level, 0)
                for alias in node.names:
                    self.assertIn(alias.name, self.names_in(node.module), (name, alias.name))

    def names_in(self, module):
        if module in LIBRARY:
            return LIBRARY[module].split()
        package, file = module.split(".")
        self.assertEqual(package, FOLDER.name)
        bound = []
        for node in trees()[file + ".py"].body:
            if isinstance(node, (ast.FunctionDef, ast.ClassDef)):
                bound.append(node.name)
            if isinstance(node, ast.Assign):
                bound.append(node.targets[0].id)
        return bound

    def test_no_two_files_import_from_each_other(self):
        ahead = {}
        for name, node in nodes():
            ahead.setdefault(name, [])
            if isinstance(node, ast.ImportFrom) and node.module not in LIBRARY:
                ahead[name].append(node.module.split(".")[1] + ".py")
        for _ in range(len(ahead)):
            ahead = {name: more for name, more in ahead.items() if any(file in ahead for file in more)}
        self.assertEqual(ahead, {})

    def test_what_stands_at_module_level(self):
        kinds = (ast.ImportFrom, ast.FunctionDef, ast.ClassDef, ast.Assign, ast.Expr)
        for name, tree in trees().items():
            for node in tree.body:
                self.assertIsInstance(node, kinds, name)
                if isinstance(node, ast.Expr):
                    self.assertIsInstance(node.value.value, str)

    def test_builtins(self):
        for name, node in nodes():
            if isinstance(node, ast.Name) and node.id in dir(builtins):
                self.assertIn(node.id, BUILTINS, name)
                self.assertIsInstance(node.ctx, ast.Load, (name, node.id))
            if isinstance(node, ast.arg):
                self.assertNotIn(node.arg, dir(builtins), name)

    def test_methods_with_double_underscores(self):
        for name, node in nodes():
            if isinstance(node, ast.FunctionDef) and node.name.startswith("__"):
                self.assertIn(node.name, DOUBLE_UNDERSCORES, name)

    def test_methods_that_are_called(self):
        own = [node.name for _, node in nodes() if isinstance(node, ast.FunctionDef)]
        for name, node in nodes():
            if isinstance(node, ast.Call) and isinstance(node.func, ast.Attribute):
                self.assertIn(node.func.attr, METHODS + own + ["__init__"], name)

    def test_attributes_that_are_read_are_assigned_by_a_class(self):
        known = [node.name for _, node in nodes() if isinstance(node, ast.FunctionDef)]
        for _, node in nodes():
            if isinstance(node, ast.Attribute) and isinstance(node.ctx, ast.Store):
                known.append(node.attr)
        for name, node in nodes():
            if isinstance(node, ast.Attribute) and isinstance(node.ctx, ast.Load):
                self.assertIn(node.attr, known + METHODS + ["__init__"], name)

    def bound(self, tree):
        """The names of parameters and variables in a file."""
        for node in ast.walk(tree):
            if isinstance(node, ast.arg):
                yield node.arg
            if isinstance(node, ast.Name) and isinstance(node.ctx, ast.Store):
                yield node.id

    def test_names_of_variables(self):
        for name, tree in trees().items():
            defined = [node.name for node in tree.body if isinstance(node, (ast.ClassDef, ast.FunctionDef))]
            imported = [a.name for node in tree.body if isinstance(node, ast.ImportFrom) for a in node.names]
            for word in self.bound(tree):
                self.assertNotIn(word, defined + imported + NO_NAMES, name)
                self.assertRegex(word, r"\A(_|_?[A-Za-z][A-Za-z0-9_]*)\Z", name)
            self.assertEqual(len(defined + imported), len(set(defined + imported)), name)

    def test_names_in_classes(self):
        methods, properties, attributes = [], [], []
        for name, node in nodes():
            if isinstance(node, ast.ClassDef):
                parts = [part for part in node.body if isinstance(part, ast.FunctionDef)]
                own = [part.name for part in parts]
                self.assertEqual(len(own), len(set(own)), (name, node.name))
                properties.extend([part.name for part in parts if part.decorator_list])
                methods.extend([part.name for part in parts if not part.decorator_list])
            if isinstance(node, ast.Attribute) and isinstance(node.ctx, ast.Store):
                attributes.append(node.attr)
        self.assertEqual(set(properties) & set(methods), set())
        self.assertEqual(set(attributes) & (set(methods) | set(properties)), set())
        self.assertEqual(set(attributes + properties) & set(METHODS), set())

    def test_no_other_function_has_the_name_of_a_generator(self):
        functions = [node for _, node in nodes() if isinstance(node, ast.FunctionDef)]
        yielding = [f.name for f in functions if any(isinstance(node, (ast.Yield, ast.YieldFrom)) for node in ast.walk(f))]
        names = [f.name for f in functions]
        for name in yielding:
            self.assertEqual(names.count(name), 1)
            self.assertNotIn(name, METHODS)

    def test_methods_of_one_statement(self):
        for name, node in nodes():
            if isinstance(node, ast.FunctionDef) and node.name in ("__len__", "__iter__"):
                self.assertEqual(len(node.body), 1)
                call = node.body[0].value
                self.assertEqual(call.func.id, node.name.strip("_"), name)
                self.assertIsInstance(call.args[0], ast.Attribute)

    def test_sets_are_sorted_at_once(self):
        for name, tree in trees().items():
            good = []
            for node in ast.walk(tree):
                self.assertNotIsInstance(node, (ast.Set, ast.SetComp), name)
                if isinstance(node, ast.Call) and ast.unparse(node.func) in ("sorted", "len"):
                    good.extend(node.args)
            for node in ast.walk(tree):
                if isinstance(node, ast.Call) and ast.unparse(node.func) in ("set", "frozenset"):
                    self.assertEqual(ast.unparse(node.func), "set", name)
                    self.assertIn(node, good, name)

    def test_statements_and_expressions_that_do_not_occur(self):
        barred = (
            ast.AsyncFunctionDef, ast.Await, ast.AsyncFor, ast.AsyncWith, ast.Global, ast.Div,
        )
        for name, node in nodes():
            self.assertNotIsInstance(node, barred, name)
            if isinstance(node, ast.Constant):
                self.assertNotIsInstance(node.value, (float, complex), name)
            if isinstance(node, ast.ExceptHandler):
                self.assertIsNotNone(node.type, name)
            if isinstance(node, ast.FunctionDef):
                for mark in node.decorator_list:
                    self.assertEqual(ast.unparse(mark).split(".")[-1] in ("property", "setter"), True)

    def test_lists_instead_of_generator_expressions(self):
        for name, node in nodes():
            self.assertNotIsInstance(node, ast.GeneratorExp, (name, getattr(node, "lineno", 0)))

    def test_words_and_signs_in_strings(self):
        for name, node in nodes():
            if isinstance(node, ast.Constant) and isinstance(node.value, str):
                self.assertNotIn("%", node.value, name)
        for name, text in texts().items():
            for word in WORDS:
                self.assertNotRegex(text, r"\b" + word + r"\b", name)


if __name__ == "__main__":
    unittest.main()
