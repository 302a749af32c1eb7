"""The rules of the language that can be seen in the text of the package."""

import ast
import builtins
import io
import pathlib
import re
import tokenize
import unittest

PACKAGE = pathlib.Path(__file__).resolve().parent.parent / "splitnumbers"
LIBRARY = {"math": {"gcd", "lcm", "isqrt", "comb", "perm", "factorial"}}
BUILTINS = set(
    "len range enumerate zip min max sum abs sorted reversed int str bool bytes list tuple dict set isinstance ord "
    "repr any all divmod iter next Exception ValueError TypeError KeyError IndexError LookupError "
    "ZeroDivisionError NotImplemented property staticmethod classmethod".split()
)
METHODS = set(
    "append clear copy count endswith extend find get index insert isalnum isalpha isdigit islower isspace isupper "
    "items join keys ljust lower lstrip partition pop remove replace reverse rfind rjust rpartition rsplit rstrip "
    "setdefault split splitlines startswith strip update upper values zfill bit_length add discard".split()
)
DOUBLE = set(
    "__init__ __eq__ __len__ __iter__ __call__ __add__ __sub__ __mul__ __rmul__ __neg__ __getitem__ __contains__ "
    "__or__ __and__ __invert__ __enter__ __exit__".split()
)
# What stands in no file outside of comments and docstrings.
WORDS = set(
    "type typing enum Enum Flag Generic Protocol ABC namedtuple NamedTuple register mro elements open input law eval exec "
    "compile globals locals vars dir id exit quit help copyright license super os sys gc __class__ __name__ async".split()
)
# A doctest leaves the name _ among them.
TAKEN = set(dir(builtins)) - {"_"}
AT_ONCE = ("list", "tuple", "dict", "sorted", "sum", "min", "max", "any", "all", "enumerate", "zip")
# What may stand among the arguments of a generator; of calls the test of builtins knows.
PLAIN = (ast.Name, ast.Attribute, ast.Constant, ast.Call, ast.Load)
BARRED = (ast.GeneratorExp, ast.SetComp, ast.Set, ast.Div, ast.Global, ast.AsyncFunctionDef, ast.Await, ast.JoinedStr)


def files():
    return sorted(PACKAGE.rglob("*.py"))


def trees():
    return [(path, ast.parse(path.read_text())) for path in files()]


def functions(tree):
    return [node for node in ast.walk(tree) if isinstance(node, ast.FunctionDef)]


def bound_names(function):
    found = [argument.arg for argument in function.args.args + function.args.kwonlyargs]
    for node in ast.walk(function):
        if isinstance(node, ast.Name) and isinstance(node.ctx, ast.Store):
            found.append(node.id)
    return found


def module_names(tree):
    found = []
    for node in tree.body:
        if isinstance(node, ast.ImportFrom):
            found += [alias.name for alias in node.names]
        elif isinstance(node, (ast.FunctionDef, ast.ClassDef)):
            found.append(node.name)
        elif isinstance(node, ast.Assign):
            found += [target.id for target in node.targets]
    return found


class LanguageTest(unittest.TestCase):
    def test_only_files_of_code(self):
        kept = [path for path in PACKAGE.rglob("*") if "__pycache__" not in path.parts]
        self.assertEqual([path for path in kept if path.suffix != ".py"], [])

    def test_init_is_a_docstring(self):
        tree = ast.parse((PACKAGE / "__init__.py").read_text())
        self.assertEqual(len(tree.body), 1)
        self.assertIsNotNone(ast.get_docstring(tree))

    def test_sizes_and_characters(self):
        for path in files():
            text = path.read_text()
            lines = text.splitlines()
            self.assertLessEqual(len(lines), 399, path)
            self.assertLessEqual(max(len(line) for line in lines), 120, path)
            self.assertTrue(all(c == "\n" or " " <= c <= "~" for c in text), path)
        for path, tree in trees():
            for function in functions(tree):
                self.assertLessEqual(function.end_lineno - function.lineno + 1, 40, (path, function.name))

    def test_barred_constructs(self):
        for path, tree in trees():
            for node in ast.walk(tree):
                if not isinstance(node, ast.JoinedStr):
                    self.assertNotIsInstance(node, BARRED, (path, getattr(node, "lineno", 0)))
                if isinstance(node, ast.Constant):
                    self.assertNotIsInstance(node.value, (float, complex), path)
                if isinstance(node, ast.Compare):
                    for sign, side in zip(node.ops, node.comparators):
                        if isinstance(sign, (ast.Is, ast.IsNot)):
                            self.assertTrue(isinstance(side, ast.Constant), (path, node.lineno))
                if isinstance(node, ast.AugAssign):
                    self.assertNotIsInstance(node.op, ast.Mult, (path, node.lineno))
                if isinstance(node, ast.BinOp) and isinstance(node.op, ast.Pow):
                    self.assertTrue(isinstance(node.right, ast.Constant), (path, node.lineno))

    def test_imports(self):
        for path, tree in trees():
            for node in ast.walk(tree):
                self.assertNotIsInstance(node, ast.Import, path)
                if isinstance(node, ast.ImportFrom) and node.module in LIBRARY:
                    self.assertTrue({alias.name for alias in node.names} <= LIBRARY[node.module], path)
                elif isinstance(node, ast.ImportFrom):
                    source = PACKAGE / (node.module.removeprefix("splitnumbers.") + ".py")
                    here = ast.parse(source.read_text()).body
                    own = [part.name for part in here if isinstance(part, (ast.FunctionDef, ast.ClassDef))]
                    own += [target.id for part in here if isinstance(part, ast.Assign) for target in part.targets]
                    for alias in node.names:
                        self.assertIn(alias.name, own, path)
                        self.assertIsNone(alias.asname, path)

    def test_no_circle_of_imports(self):
        wanted = {path.stem: [node.module.split(".")[-1] for node in tree.body if isinstance(node, ast.ImportFrom)
                              and node.module.startswith("splitnumbers.")] for path, tree in trees()}
        left = dict(wanted)
        while left:
            free = [name for name in left if not any(other in left for other in left[name])]
            self.assertTrue(free, left)
            for name in free:
                del left[name]

    def test_names(self):
        for path, tree in trees():
            names = module_names(tree)
            self.assertEqual(len(names), len(set(names)), path)
            taken = {alias.name for node in tree.body if isinstance(node, ast.ImportFrom) for alias in node.names}
            taken |= {node.name for node in tree.body if isinstance(node, ast.ClassDef)}
            self.assertFalse([name for name in names if name in TAKEN], path)
            for function in functions(tree):
                for name in bound_names(function):
                    self.assertFalse(name in TAKEN, (path, name))
                    self.assertNotIn(name, taken, (path, function.name))
                if function.name.startswith("__"):
                    self.assertIn(function.name, DOUBLE, path)

    def test_builtins_and_methods(self):
        own = {function.name for _, tree in trees() for function in functions(tree)}
        for path, tree in trees():
            for node in ast.walk(tree):
                if isinstance(node, ast.Name) and isinstance(node.ctx, ast.Load) and node.id in TAKEN:
                    self.assertIn(node.id, BUILTINS, (path, node.lineno))
                if isinstance(node, ast.Call) and isinstance(node.func, ast.Attribute):
                    self.assertIn(node.func.attr, METHODS | own, (path, node.lineno))

    def test_generators_are_iterated_at_once(self):
        makers = {function.name for _, tree in trees() for function in functions(tree)
                  if any(isinstance(node, (ast.Yield, ast.YieldFrom)) for node in ast.walk(function))}
        self.assertIn("square_parts", makers)
        for path, tree in trees():
            used = []
            for node in ast.walk(tree):
                if isinstance(node, (ast.For, ast.comprehension)):
                    used.append(node.iter)
                elif isinstance(node, ast.YieldFrom):
                    used.append(node.value)
                elif isinstance(node, ast.Call) and isinstance(node.func, ast.Name) and node.func.id in AT_ONCE:
                    used += node.args[:1]
            for node in ast.walk(tree):
                if isinstance(node, ast.Call) and isinstance(node.func, ast.Name) and node.func.id in makers:
                    self.assertIn(node, used, (path, node.lineno))
                    for part in [part for value in node.args for part in ast.walk(value)]:
                        self.assertIsInstance(part, PLAIN, (path, node.lineno))

    def test_strings(self):
        for path, tree in trees():
            for node in ast.walk(tree):
                if isinstance(node, ast.Constant) and isinstance(node.value, str) and "%" in node.value:
                    self.fail((path, node.lineno))

    def test_barred_words(self):
        for path in files():
            for token in tokenize.generate_tokens(io.StringIO(path.read_text()).readline):
                if token.type == tokenize.NAME or (token.type == tokenize.STRING and not token.string.startswith('"""')):
                    for word in re.findall(r"\w+", token.string):
                        self.assertNotIn(word, WORDS, (path, token.start))

    def test_names_of_methods_and_attributes(self):
        methods, attributes = set(), set()
        for path, tree in trees():
            for kind in [node for node in ast.walk(tree) if isinstance(node, ast.ClassDef)]:
                methods |= {part.name for part in kind.body if isinstance(part, ast.FunctionDef)}
                methods |= {target.id for part in kind.body if isinstance(part, ast.Assign) for target in part.targets}
            attributes |= {node.attr for node in ast.walk(tree)
                           if isinstance(node, ast.Attribute) and isinstance(node.ctx, ast.Store)}
        self.assertEqual(methods & attributes, set())
        for path, tree in trees():
            for node in ast.walk(tree):
                if isinstance(node, ast.Attribute):
                    self.assertIn(node.attr, methods | attributes | METHODS, (path, node.lineno))

    def test_module_level(self):
        self.assertLessEqual(len(files()), 100)
        for path, tree in trees():
            kinds = [type(node) for node in tree.body]
            self.assertTrue(set(kinds) <= {ast.Expr, ast.ImportFrom, ast.Assign, ast.FunctionDef, ast.ClassDef}, path)
            self.assertEqual(kinds.count(ast.Expr), 1, path)
            last = max([k for k, kind in enumerate(kinds) if kind == ast.ImportFrom], default=0)
            self.assertTrue(set(kinds[1:last + 1]) <= {ast.ImportFrom}, path)
            for function in functions(tree):
                for value in function.args.defaults + [value for value in function.args.kw_defaults if value]:
                    ast.literal_eval(value)

    def test_ends_of_with_blocks(self):
        for path, tree in trees():
            for function in functions(tree):
                if function.name == "__exit__":
                    self.assertEqual([argument.arg for argument in function.args.args], ["self", "kind", "value", "trace"])
                    for part in function.body:
                        self.assertIsInstance(part, ast.Assign, path)
                        self.assertIsInstance(part.value, ast.Attribute, path)

    def test_every_test_folder_stands_beside(self):
        self.assertEqual([path for path in files() if path.name.startswith("test")], [])


if __name__ == "__main__":
    unittest.main()
