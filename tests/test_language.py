"""The package keeps to its small part of the language; where it uses less than is let, less is checked here."""

import ast
import builtins
import os
import unittest

ROOT = os.path.join(os.path.dirname(os.path.abspath(__file__)), os.pardir)
FOLDER = os.path.join(ROOT, "deadlevers")

BUILTINS = set("""len range enumerate zip min max sum abs sorted reversed int str bool list tuple dict set isinstance
    any all divmod ValueError KeyError""".split())
METHODS = set("""append clear copy count endswith extend find get index insert isalnum isalpha isdigit islower isspace
    isupper items join keys ljust lower lstrip partition pop remove replace reverse rfind rjust rpartition rsplit rstrip
    setdefault split splitlines startswith strip update upper values zfill bit_length""".split())
CHANGERS = set("append clear extend insert pop remove reverse setdefault update".split())
BARRED_NAMES = set("""register mro elements open input law version_info with_traceback add_note attrgetter breakpoint
    builtins compile copyright credits delattr dir eval exec exit gc getattr globals hasattr help id importlib license
    locals methodcaller os quit setattr super type vars sys""".split())
BARRED_WORDS = set("""type typing typing_extensions enum Enum IntEnum StrEnum Flag IntFlag Generic Protocol ABC ABCMeta
    namedtuple NamedTuple TypedDict TYPE_CHECKING abstractmethod dataclass overload contextmanager""".split())
# Whoever tries examples puts _ among the builtins.
TAKEN = set(dir(builtins)) - {"_"}
LIBRARY = {"math": {"gcd", "lcm", "isqrt", "comb", "perm", "factorial"}, "itertools": {"product", "combinations", "permutations"}}
STATEMENTS = (ast.Assign, ast.AugAssign, ast.If, ast.While, ast.For, ast.Return, ast.Break, ast.Continue, ast.Pass,
              ast.Raise, ast.Try, ast.Expr, ast.FunctionDef, ast.ClassDef, ast.ImportFrom)
DOUBLE = {"__init__", "__eq__"}


def sources():
    found = {}
    for name in sorted(os.listdir(FOLDER)):
        if name != "__pycache__":
            with open(os.path.join(FOLDER, name), "rb") as file:
                found[name] = file.read().decode("ascii")
    return found


def functions(tree):
    return [node for node in ast.walk(tree) if isinstance(node, ast.FunctionDef)]


def docstrings(tree):
    found = set()
    for node in ast.walk(tree):
        if isinstance(node, (ast.Module, ast.ClassDef, ast.FunctionDef)) and node.body:
            first = node.body[0]
            if isinstance(first, ast.Expr) and isinstance(first.value, ast.Constant):
                found.add(id(first.value))
    return found


def bound_names(function):
    names = {argument.arg for argument in function.args.args + function.args.kwonlyargs}
    for node in ast.walk(function):
        if isinstance(node, ast.Name) and isinstance(node.ctx, ast.Store):
            names.add(node.id)
    return names


def iterated(node):
    """The names over which a loop or comprehension iterates."""
    if isinstance(node, ast.Call) and isinstance(node.func, ast.Name) and node.func.id in ("zip", "enumerate", "reversed"):
        return {name for inner in node.args for name in iterated(inner)}
    if isinstance(node, ast.Call) and isinstance(node.func, ast.Attribute):
        return iterated(node.func.value) if node.func.attr in ("items", "keys", "values") else set()
    return {ast.dump(node)} if isinstance(node, (ast.Name, ast.Attribute)) else set()


def changed(body):
    """What the rows of a loop change: whose items are assigned, or who is told to change."""
    found = set()
    for statement in body:
        for node in ast.walk(statement):
            if isinstance(node, ast.Subscript) and isinstance(node.ctx, (ast.Store, ast.Del)):
                found.add(ast.dump(ast.parse(ast.unparse(node.value), mode="eval").body))
            if isinstance(node, ast.Call) and isinstance(node.func, ast.Attribute) and node.func.attr in CHANGERS:
                found.add(ast.dump(ast.parse(ast.unparse(node.func.value), mode="eval").body))
    return found


class LanguageTest(unittest.TestCase):

    def setUp(self):
        self.texts = sources()
        self.trees = {name: ast.parse(text) for name, text in self.texts.items()}
        self.defined = {name: {node.name for node in tree.body if isinstance(node, (ast.FunctionDef, ast.ClassDef))} |
                        {target.id for node in tree.body if isinstance(node, ast.Assign) for target in node.targets}
                        for name, tree in self.trees.items()}

    def each(self):
        for name, tree in self.trees.items():
            for node in ast.walk(tree):
                yield "%s:%s" % (name, getattr(node, "lineno", 0)), node

    def test_files(self):
        self.assertIn("__init__.py", self.texts)
        for name, text in self.texts.items():
            self.assertRegex(name, r"\A[a-z_][a-z0-9_]*\.py\Z")
            self.assertLessEqual(text.count("\n"), 399, name)
            self.assertTrue(text.endswith("\n") and not text.endswith("\n\n"), name)
            for line in text.split("\n"):
                self.assertLessEqual(len(line), 120, (name, line))
                self.assertEqual(line, line.rstrip(), name)
                self.assertTrue(all(" " <= sign <= "~" for sign in line), (name, line))

    def test_functions(self):
        for name, tree in self.trees.items():
            for node in functions(tree):
                self.assertLessEqual(node.end_lineno - node.lineno + 1, 40, (name, node.name))
                self.assertEqual(node.decorator_list, [])
                self.assertIsNone(node.returns)
                self.assertIsNone(node.args.vararg)
                self.assertIsNone(node.args.kwarg)
                self.assertEqual(functions(node), [node], (name, node.name))
                for default in node.args.defaults + [item for item in node.args.kw_defaults if item]:
                    self.assertIsInstance(ast.literal_eval(default), (int, str, tuple, type(None)))
                if node.name.startswith("__"):
                    self.assertIn(node.name, DOUBLE)

    def test_statements(self):
        barred = (ast.Lambda, ast.GeneratorExp, ast.NamedExpr, ast.Yield, ast.YieldFrom, ast.Await, ast.Pow, ast.Div,
                  ast.Starred, ast.AnnAssign, ast.Global, ast.Nonlocal)
        for at, node in self.each():
            self.assertNotIsInstance(node, barred, at)
            if isinstance(node, ast.stmt):
                self.assertIsInstance(node, STATEMENTS, at)
            if isinstance(node, ast.Raise):
                self.assertIsInstance(node.exc, ast.Call, at)
                self.assertIsInstance(node.exc.func, ast.Name, at)
            if isinstance(node, ast.Try):
                self.assertLessEqual({handler.type.id for handler in node.handlers}, self.defined["errors.py"], at)
                for last in node.finalbody:
                    self.assertIsInstance(last, ast.Assign, at)
                    self.assertIsInstance(last.targets[0], ast.Attribute, at)
                    self.assertIsInstance(last.value, ast.Name, at)
            if isinstance(node, ast.Compare):
                for sign, right in zip(node.ops, node.comparators):
                    if isinstance(sign, (ast.Is, ast.IsNot)):
                        self.assertIsInstance(right, ast.Constant, at)

    def test_module_level(self):
        for name, tree in self.trees.items():
            docs = docstrings(tree)
            done_importing = False
            bound = []
            for node in tree.body:
                if isinstance(node, ast.Expr):
                    self.assertIn(id(node.value), docs)
                elif isinstance(node, ast.ImportFrom):
                    self.assertFalse(done_importing, name)
                    bound += [alias.name for alias in node.names]
                    self.assertTrue(all(alias.asname is None for alias in node.names))
                else:
                    done_importing = True
                    self.assertIsInstance(node, (ast.FunctionDef, ast.ClassDef, ast.Assign), name)
                    bound += [node.targets[0].id] if isinstance(node, ast.Assign) else [node.name]
                    if isinstance(node, ast.Assign):
                        ast.literal_eval(node.value)
            self.assertEqual(len(bound), len(set(bound)), name)

    def test_imports(self):
        seen = {}
        for name, tree in self.trees.items():
            used = {node.id for node in ast.walk(tree) if isinstance(node, ast.Name)}
            seen[name] = set()
            for node in ast.walk(tree):
                self.assertNotIsInstance(node, ast.Import)
                if isinstance(node, ast.ImportFrom):
                    names = {alias.name for alias in node.names}
                    self.assertLessEqual(names, used, name)
                    if node.module in LIBRARY:
                        self.assertLessEqual(names, LIBRARY[node.module])
                    else:
                        self.assertTrue(node.module.startswith("deadlevers."))
                        file = node.module.split(".", 1)[1] + ".py"
                        self.assertLessEqual(names, self.defined[file], name)
                        seen[name].add(file)
        while seen:
            free = [name for name in seen if not seen[name] & set(seen)]
            self.assertTrue(free, "files import each other: %s" % sorted(seen))
            for name in free:
                del seen[name]

    def test_names(self):
        for name, tree in self.trees.items():
            imports = {alias.name for node in tree.body if isinstance(node, ast.ImportFrom) for alias in node.names}
            classes = {node.name for node in tree.body if isinstance(node, ast.ClassDef)}
            for node in functions(tree):
                bound = bound_names(node)
                self.assertFalse(bound & (imports | classes), (name, node.name))
                self.assertFalse(bound & TAKEN, (name, node.name))
                self.assertFalse(bound & self.defined[name], (name, node.name))
            self.assertFalse(self.defined[name] & TAKEN, name)
            for node in ast.walk(tree):
                told = getattr(node, "id", None) or getattr(node, "name", None) or getattr(node, "arg", None)
                if isinstance(told, str):
                    self.assertNotIn(told, BARRED_NAMES, name)
                    self.assertTrue(told in DOUBLE or not told.startswith("__"), (name, told))
                if isinstance(node, ast.Attribute):
                    self.assertNotIn(node.attr, ("mro", "format", "format_map", "args"), name)
                if isinstance(node, ast.Name) and isinstance(node.ctx, ast.Load) and node.id in TAKEN:
                    self.assertIn(node.id, BUILTINS, name)
                if isinstance(node, ast.Name) and node.id == "_":
                    self.assertIsInstance(node.ctx, ast.Store, name)

    def test_attributes(self):
        methods, stored = set(), set()
        for _, node in self.each():
            if isinstance(node, ast.ClassDef):
                own = {item.name for item in node.body if isinstance(item, ast.FunctionDef)}
                attributes = {item.attr for item in ast.walk(node)
                              if isinstance(item, ast.Attribute) and isinstance(item.ctx, ast.Store)}
                self.assertFalse(own & attributes, node.name)
                methods |= own
                stored |= attributes
        for at, node in self.each():
            if isinstance(node, ast.Call) and isinstance(node.func, ast.Attribute):
                self.assertIn(node.func.attr, METHODS | methods, at)
            elif isinstance(node, ast.Attribute):
                self.assertIn(node.attr, stored | METHODS | methods, at)
        self.assertFalse(methods & METHODS)
        self.assertFalse(methods & stored)

    def test_strings(self):
        for name, tree in self.trees.items():
            docs = docstrings(tree)
            for node in ast.walk(tree):
                if isinstance(node, ast.Constant):
                    self.assertNotIsInstance(node.value, (float, complex, bytes), name)
                if isinstance(node, ast.Constant) and isinstance(node.value, str):
                    self.assertNotIn("%", node.value, name)
                    self.assertFalse(node.value.startswith("__") or node.value.endswith("__"), name)
                    if id(node) not in docs:
                        self.assertFalse(set(node.value.split()) & BARRED_WORDS, name)
                for told in (getattr(node, "id", ""), getattr(node, "name", ""), getattr(node, "attr", "")):
                    self.assertNotIn(told, BARRED_WORDS, name)
            self.assertNotIn("\\", self.texts[name], name)

    def test_sets(self):
        """A set stands in `len` or `sorted` alone."""
        for name, tree in self.trees.items():
            good = {id(node.args[0]) for node in ast.walk(tree) if isinstance(node, ast.Call) and
                    isinstance(node.func, ast.Name) and node.func.id in ("len", "sorted") and not node.keywords}
            for node in ast.walk(tree):
                is_set = isinstance(node, ast.Call) and isinstance(node.func, ast.Name) and node.func.id == "set"
                if is_set or isinstance(node, (ast.Set, ast.SetComp)):
                    self.assertIn(id(node), good, name)

    def test_iterated_at_once(self):
        for name, tree in self.trees.items():
            good = set()
            for node in ast.walk(tree):
                if isinstance(node, (ast.For, ast.comprehension)):
                    good.add(id(node.iter))
                if isinstance(node, ast.Call) and isinstance(node.func, ast.Name) and node.args:
                    if node.func.id in ("list", "tuple", "dict", "sorted", "enumerate", "zip") or (
                            node.func.id == "reversed" and ast.unparse(node.args[0]).startswith("range(")):
                        good.add(id(node.args[0]))
            for node in ast.walk(tree):
                if isinstance(node, ast.Call) and isinstance(node.func, ast.Name):
                    if node.func.id in ("zip", "enumerate", "reversed", "range"):
                        self.assertIn(id(node), good, (name, node.lineno))
                if isinstance(node, ast.For):
                    self.assertFalse(iterated(node.iter) & changed(node.body), (name, node.lineno))

    def test_keywords(self):
        """Keywords are passed to own functions alone."""
        for name, tree in self.trees.items():
            for node in ast.walk(tree):
                if isinstance(node, ast.Call) and node.keywords:
                    self.assertNotIn(getattr(node.func, "id", "") or node.func.attr, BUILTINS | METHODS, name)

    def test_docstrings(self):
        for name, tree in self.trees.items():
            self.assertTrue(ast.get_docstring(tree), name)
            for node in tree.body:
                if isinstance(node, (ast.FunctionDef, ast.ClassDef)):
                    self.assertTrue(ast.get_docstring(node), (name, node.name))


if __name__ == "__main__":
    unittest.main()
