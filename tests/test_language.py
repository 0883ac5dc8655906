"""The files of the package keep to the subset of Python of ../shared/LANGUAGE.md, as far as is seen here."""

import ast
import builtins
import os
import unittest

FOLDER = os.path.join(os.path.dirname(os.path.dirname(os.path.abspath(__file__))), "truetouch")

BUILTINS = set("""len range enumerate zip min max sum abs sorted reversed int str bool list tuple dict set isinstance ord
repr any all divmod iter super property classmethod ValueError""".split())

METHODS = set("""append clear copy count endswith extend find get index insert isalnum isalpha isdigit islower isspace
isupper items join keys ljust lower lstrip partition pop remove replace reverse rfind rjust rpartition rsplit rstrip
setdefault split splitlines startswith strip update upper values zfill bit_length""".split())

DOUBLES = set("""__init__ __eq__ __repr__ __str__ __len__ __enter__ __exit__ __call__ __iter__ __add__ __mul__
__contains__ __getitem__ __bool__""".split())

BARRED_NODES = (ast.GeneratorExp, ast.Lambda, ast.Global, ast.Nonlocal, ast.AsyncFunctionDef, ast.Await, ast.Set,
                ast.NamedExpr, ast.Div)

BARRED_NAMES = set("register mro elements open input law version_info with_traceback add_note".split())

BARRED_WORDS = ["type", "typing", "enum", "Enum", "Generic", "Protocol", "ABC", "namedtuple", "NamedTuple"]


def files():
    return sorted(os.listdir(FOLDER))


def sources():
    for name in files():
        if name != "__pycache__":
            with open(os.path.join(FOLDER, name), encoding="ascii") as file:
                yield name, file.read()


def trees():
    for name, text in sources():
        yield name, ast.parse(text)


def functions(tree):
    return [node for node in ast.walk(tree) if isinstance(node, ast.FunctionDef)]


def is_from_library(node):
    """Whether an import is one of the few that may come from outside of the package."""
    return node.module == "math" and all(alias.name in ("gcd", "lcm", "isqrt") for alias in node.names)


def is_generator(function):
    return any(isinstance(node, (ast.Yield, ast.YieldFrom)) for node in ast.walk(function))


class Language(unittest.TestCase):

    def test_files_and_lines(self):
        self.assertTrue(all(name.endswith(".py") for name in files() if name != "__pycache__"))
        self.assertLessEqual(len(files()), 100)
        for name, text in sources():
            self.assertEqual(name, name.lower())
            lines = text.split("\n")
            self.assertLessEqual(len(lines), 399, name)
            for line in lines:
                self.assertLessEqual(len(line), 120, (name, line))
                self.assertTrue(all(" " <= sign <= "~" for sign in line), (name, line))

    def test_functions_are_small(self):
        for name, tree in trees():
            for function in functions(tree):
                self.assertLessEqual(function.end_lineno - function.lineno + 1, 40, (name, function.name))

    def test_nodes(self):
        for name, tree in trees():
            for node in ast.walk(tree):
                self.assertNotIsInstance(node, BARRED_NODES, (name, getattr(node, "lineno", 0)))
                if isinstance(node, ast.Constant):
                    self.assertNotIsInstance(node.value, (float, bytes))
                if isinstance(node, ast.Compare) and any(isinstance(op, (ast.Is, ast.IsNot)) for op in node.ops):
                    self.assertTrue(all(isinstance(side, ast.Constant) for side in node.comparators), name)

    def test_module_level(self):
        bound = (ast.ImportFrom, ast.FunctionDef, ast.ClassDef)
        for name, tree in trees():
            names = []
            for node in tree.body:
                if isinstance(node, ast.Assign):
                    ast.literal_eval(node.value)
                    names += [target.id for target in node.targets]
                elif isinstance(node, ast.Expr):
                    self.assertIsInstance(node.value, ast.Constant)
                else:
                    self.assertIsInstance(node, bound, name)
                    if isinstance(node, ast.ImportFrom):
                        self.assertTrue(node.module.startswith("truetouch.") or is_from_library(node), name)
                        self.assertTrue(all(alias.asname is None for alias in node.names))
                        names += [alias.name for alias in node.names]
                    else:
                        names.append(node.name)
            self.assertEqual(len(names), len(set(names)), name)

    def test_imports_name_the_defining_file_and_make_no_circle(self):
        defined = {}
        needs = {}
        for name, tree in trees():
            defined["truetouch." + name[:-3]] = [
                told for node in tree.body for told in (
                    [target.id for target in node.targets] if isinstance(node, ast.Assign)
                    else [node.name] if isinstance(node, (ast.FunctionDef, ast.ClassDef)) else [])]
        for name, tree in trees():
            imports = [node for node in tree.body if isinstance(node, ast.ImportFrom) and not is_from_library(node)]
            needs["truetouch." + name[:-3]] = [node.module for node in imports]
            for node in imports:
                for alias in node.names:
                    self.assertIn(alias.name, defined[node.module], name)
        done = set()
        while len(done) < len(needs):
            ready = [name for name in needs if name not in done and all(need in done for need in needs[name])]
            self.assertTrue(ready, "a circle of imports")
            done.update(ready)

    def test_imports_are_used(self):
        for name, tree in trees():
            used = {node.id for node in ast.walk(tree) if isinstance(node, ast.Name)}
            for node in tree.body:
                if isinstance(node, ast.ImportFrom):
                    for alias in node.names:
                        self.assertIn(alias.name, used, name)

    def test_names_from_outside_are_only_called(self):
        for name, tree in trees():
            taken = [alias.name for node in tree.body if isinstance(node, ast.ImportFrom) and is_from_library(node)
                     for alias in node.names]
            called = [node.func for node in ast.walk(tree) if isinstance(node, ast.Call) and not node.keywords]
            for node in ast.walk(tree):
                if isinstance(node, ast.Name) and node.id in taken:
                    self.assertIn(node, called, name)

    def test_stars_stand_before_names_alone(self):
        for name, tree in trees():
            for node in ast.walk(tree):
                if isinstance(node, ast.Call):
                    for told in node.args:
                        if isinstance(told, ast.Starred):
                            self.assertIsInstance(told.value, (ast.Name, ast.Attribute), name)
                if isinstance(node, ast.Set):
                    self.assertFalse(any(isinstance(told, ast.Starred) for told in node.elts), name)

    def test_generators_are_not_kept(self):
        made = {function.name for _, tree in trees() for function in functions(tree) if is_generator(function)}
        for name, tree in trees():
            for node in ast.walk(tree):
                if isinstance(node, (ast.Return, ast.Assign)) and isinstance(node.value, ast.Call):
                    told = node.value.func
                    self.assertNotIn(getattr(told, "id", getattr(told, "attr", "")), made, name)

    def test_names(self):
        known = set(dir(builtins))
        for name, tree in trees():
            taken = [alias.name for node in tree.body if isinstance(node, ast.ImportFrom) for alias in node.names]
            taken += [node.name for node in tree.body if isinstance(node, ast.ClassDef)]
            bound = [node.id for node in ast.walk(tree) if isinstance(node, ast.Name)
                     and not isinstance(node.ctx, ast.Load)]
            bound += [node.arg for node in ast.walk(tree) if isinstance(node, ast.arg)]
            bound += [node.name for node in ast.walk(tree) if isinstance(node, ast.ExceptHandler) and node.name]
            for told in bound:
                self.assertNotIn(told, known, name)
                self.assertNotIn(told, BARRED_NAMES, name)
                self.assertNotIn(told, taken, name)
            for node in ast.walk(tree):
                if isinstance(node, ast.Name) and isinstance(node.ctx, ast.Load) and node.id in known:
                    self.assertIn(node.id, BUILTINS, (name, node.lineno))
                if isinstance(node, ast.Name) and isinstance(node.ctx, ast.Load):
                    self.assertNotEqual(node.id, "_", (name, node.lineno))
                if isinstance(node, (ast.FunctionDef, ast.ClassDef)):
                    self.assertNotIn(node.name, known, name)

    def test_strings(self):
        for name, tree in trees():
            for node in ast.walk(tree):
                if isinstance(node, ast.Constant) and isinstance(node.value, str):
                    self.assertNotIn("%", node.value)
            for node in ast.walk(tree):
                told = [getattr(node, "id", ""), getattr(node, "attr", ""), getattr(node, "arg", "")]
                for word in BARRED_WORDS:
                    self.assertNotIn(word, told, name)

    def test_methods_that_are_called(self):
        own = {function.name for _, tree in trees() for function in functions(tree)}
        for name, tree in trees():
            for node in ast.walk(tree):
                if isinstance(node, ast.Call) and isinstance(node.func, ast.Attribute):
                    self.assertIn(node.func.attr, METHODS | own | {"__init__"}, (name, node.lineno))

    def test_classes(self):
        for name, tree in trees():
            for node in ast.walk(tree):
                if isinstance(node, ast.ClassDef):
                    self.assertEqual(node.decorator_list, [])
                    for part in node.body:
                        if isinstance(part, ast.FunctionDef) and part.name.startswith("__"):
                            self.assertIn(part.name, DOUBLES, name)
                        if isinstance(part, ast.FunctionDef) and part.name in ("__iter__", "__len__"):
                            self.assertEqual(len(part.body), 1, name)
                            call = {"__iter__": "iter", "__len__": "len"}[part.name]
                            self.assertEqual(part.body[0].value.func.id, call, name)

    def test_sets_stand_only_where_they_may(self):
        for name, tree in trees():
            allowed = []
            for node in ast.walk(tree):
                if isinstance(node, ast.Call) and isinstance(node.func, ast.Name) and node.func.id in ("sorted", "len"):
                    allowed += node.args
            for node in ast.walk(tree):
                is_set = isinstance(node, ast.SetComp) or (
                    isinstance(node, ast.Call) and isinstance(node.func, ast.Name) and node.func.id == "set")
                if is_set:
                    self.assertIn(node, allowed, (name, node.lineno))

    def test_names_of_methods_attributes_and_generators(self):
        methods, properties, attributes, generators, plain = set(), set(), set(), set(), []
        for _, tree in trees():
            for node in ast.walk(tree):
                if isinstance(node, ast.ClassDef):
                    for part in node.body:
                        if isinstance(part, ast.FunctionDef):
                            told = [getattr(word, "id", getattr(word, "attr", "")) for word in part.decorator_list]
                            (properties if "property" in told or "setter" in told else methods).add(part.name)
                if isinstance(node, ast.Attribute) and isinstance(node.ctx, ast.Store):
                    attributes.add(node.attr)
            for function in functions(tree):
                (generators.add if is_generator(function) else plain.append)(function.name)
        self.assertEqual(properties & attributes, set())
        self.assertEqual(properties & methods, set())
        self.assertEqual(methods & attributes, set())
        self.assertEqual(generators & set(plain), set())


if __name__ == "__main__":
    unittest.main()
