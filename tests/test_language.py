"""What can be seen of the rules of LANGUAGE.md in the files of the package."""

import ast
import builtins
import os
import re
import unittest
import warnings

ROOT = os.path.join(os.path.dirname(os.path.dirname(os.path.abspath(__file__))), "partclones")

BUILTINS = """len range enumerate zip min max sum abs sorted reversed int str bool list tuple dict set isinstance ord
repr any all divmod iter next Exception ValueError TypeError KeyError IndexError LookupError ZeroDivisionError
ArithmeticError OverflowError RuntimeError NotImplementedError NotImplemented super property staticmethod
classmethod""".split()

METHODS = """append clear copy count endswith extend find get index insert isalnum isalpha isdigit islower isspace
isupper items join keys ljust lower lstrip partition pop remove replace reverse rfind rjust rpartition rsplit rstrip
setdefault split splitlines startswith strip update upper values zfill bit_length add discard""".split()

BARRED = """register mro elements open input law version_info with_traceback add_note attrgetter breakpoint builtins
compile copyright credits delattr dir eval exec exit gc globals help id importlib license locals methodcaller os quit
vars sys""".split()

STATEMENTS = (
    *(ast.Assign, ast.AugAssign, ast.If, ast.While, ast.For, ast.Return, ast.Break, ast.Continue, ast.Pass),
    *(ast.Raise, ast.Assert, ast.Delete, ast.Try, ast.Expr, ast.ImportFrom, ast.FunctionDef, ast.ClassDef, ast.With),
)


OPERATORS = "__eq__ __len__ __repr__ __str__ __contains__ __and__ __or__".split()

MODIFYING = "append clear extend insert pop remove reverse setdefault update add discard".split()


def is_changed(node):
    return isinstance(node.ctx, (ast.Store, ast.Del))


def assigns(node, name):
    return any(isinstance(target, ast.Name) and target.id == name for target in node.targets)


def is_new(value):
    """Whether the value of an assignment is a list, dict or set that the statement itself makes."""
    if isinstance(value, ast.Call):
        return getattr(value.func, "id", "") in ("list", "dict", "set", "sorted")
    return isinstance(value, (ast.List, ast.Dict, ast.Set, ast.ListComp, ast.DictComp, ast.SetComp))


def package_files():
    found = []
    for folder, folders, names in os.walk(ROOT):
        folders[:] = sorted(name for name in folders if name != "__pycache__")
        found.extend(os.path.join(folder, name) for name in sorted(names))
    return found


def module_name(path):
    return os.path.relpath(path, os.path.dirname(ROOT))[:-3].replace(os.sep, ".")


class LanguageTest(unittest.TestCase):
    def setUp(self):
        self.sources = {}
        for path in package_files():
            with open(path, encoding="utf-8") as file:
                self.sources[path] = file.read()
        with warnings.catch_warnings():
            warnings.simplefilter("error")
            self.trees = {path: ast.parse(source, path) for path, source in self.sources.items()}

    def nodes(self, kinds):
        for path, tree in self.trees.items():
            for node in ast.walk(tree):
                if isinstance(node, kinds):
                    yield f"{path}:{getattr(node, 'lineno', 0)}", node

    def test_files(self):
        self.assertLessEqual(len(self.sources), 100)
        for path in self.sources:
            self.assertRegex(os.path.basename(path), r"^[a-z0-9_]+\.py$")
            self.assertIn(os.path.join(os.path.dirname(path), "__init__.py"), self.sources)

    def test_sizes_and_characters(self):
        for path, source in self.sources.items():
            lines = source.split("\n")
            self.assertLessEqual(len(lines), 400, path)
            for number, line in enumerate(lines, 1):
                self.assertLessEqual(len(line), 120, f"{path}:{number}")
                self.assertRegex(line, r"^[ -~]*$", f"{path}:{number}")
        for where, node in self.nodes(ast.FunctionDef):
            self.assertLessEqual(node.end_lineno - node.lineno + 1, 40, where)

    def test_module_level(self):
        for path, tree in self.trees.items():
            for node in tree.body:
                docstring = isinstance(node, ast.Expr) and isinstance(node.value, ast.Constant)
                allowed = (ast.ImportFrom, ast.FunctionDef, ast.ClassDef, ast.Assign)
                self.assertTrue(docstring or isinstance(node, allowed), f"{path}:{node.lineno}")
                if isinstance(node, ast.Assign):
                    self.assertEqual([type(target) for target in node.targets], [ast.Name], f"{path}:{node.lineno}")

    def test_imports_name_the_defining_file_and_make_no_circle(self):
        defined = {}
        wanted = {}
        for path, tree in self.trees.items():
            name = module_name(path)
            defined[name] = [node.name for node in tree.body if isinstance(node, (ast.FunctionDef, ast.ClassDef))]
            defined[name] += [node.targets[0].id for node in tree.body if isinstance(node, ast.Assign)]
            wanted[name] = [node for node in ast.walk(tree) if isinstance(node, (ast.ImportFrom, ast.Import))]
        for name, nodes in wanted.items():
            for node in nodes:
                self.assertIsInstance(node, ast.ImportFrom, name)
                self.assertEqual(node.level, 0, name)
                for alias in node.names:
                    self.assertIsNone(alias.asname, name)
                    self.assertIn(alias.name, defined[node.module], name)
        self.check_circles({name: [node.module for node in nodes] for name, nodes in wanted.items()})

    def check_circles(self, uses):
        done = []
        while len(done) < len(uses):
            ready = [name for name in uses if name not in done and all(other in done for other in uses[name])]
            self.assertNotEqual(ready, [], "files import from each other")
            done.extend(ready)

    def test_statements(self):
        for where, node in self.nodes(ast.stmt):
            self.assertIsInstance(node, STATEMENTS, where)
        for where, node in self.nodes((ast.JoinedStr, ast.Constant)):
            value = getattr(node, "value", "")
            self.assertNotIsInstance(value, (float, complex, bytes), where)
        for where, node in self.nodes((ast.Div, ast.MatMult, ast.Await, ast.NamedExpr, ast.AnnAssign, ast.Global)):
            self.fail(where)

    def test_decorators(self):
        allowed = ("property", "staticmethod", "classmethod")
        for where, node in self.nodes((ast.FunctionDef, ast.ClassDef)):
            for decorator in node.decorator_list:
                setter = isinstance(decorator, ast.Attribute) and decorator.attr == "setter"
                self.assertTrue(setter or decorator.id in allowed, where)

    def test_double_underscore_methods(self):
        allowed = "init eq repr str len enter exit call iter contains and or".split()
        for where, node in self.nodes(ast.FunctionDef):
            if node.name.startswith("__"):
                self.assertIn(node.name.strip("_"), allowed, where)

    def test_generators(self):
        generators, others = [], []
        for where, node in self.nodes(ast.FunctionDef):
            yields = any(isinstance(inner, (ast.Yield, ast.YieldFrom)) for inner in ast.walk(node))
            (generators if yields else others).append(node.name)
        self.assertEqual(len(set(generators)), len(generators))
        self.assertEqual(set(generators) & set(others), set())
        iterated = []
        for _, node in self.nodes((ast.For, ast.comprehension)):
            iterated.append(node.iter)
        for _, node in self.nodes(ast.Call):
            if isinstance(node.func, ast.Name) and node.func.id in ("list", "sorted"):
                iterated.extend(node.args)
        for where, node in self.nodes(ast.Call):
            if isinstance(node.func, ast.Name) and node.func.id in generators:
                self.assertIn(node, iterated, where)

    def functions_by_name(self):
        found = {}
        for tree in self.trees.values():
            for node in ast.walk(tree):
                if isinstance(node, ast.FunctionDef):
                    found.setdefault(node.name, []).append(node)
                elif isinstance(node, ast.ClassDef):
                    starts = [inner for inner in node.body if getattr(inner, "name", "") == "__init__"]
                    found.setdefault(node.name, []).extend(starts)
        return found

    def run_by_operators(self):
        """The functions and methods that operators and properties run, by whatever has the name that they call."""
        named = self.functions_by_name()
        left = [node for name in OPERATORS for node in named.get(name, [])]
        for _, node in self.nodes(ast.FunctionDef):
            if [decorator for decorator in node.decorator_list if getattr(decorator, "id", "") == "property"]:
                left.append(node)
        found = []
        while left:
            node = left.pop()
            if node not in found:
                found.append(node)
                calls = [inner.func for inner in ast.walk(node) if isinstance(inner, ast.Call)]
                for call in calls:
                    left.extend(named.get(getattr(call, "id", getattr(call, "attr", "")), []))
        return found

    def test_operators_and_properties_run_no_generator(self):
        # A constructor that they call counts, too.
        names = [node.name for node in self.run_by_operators()]
        for name in ("__and__", "__or__", "first_gap", "closure", "depth", "marks"):
            self.assertIn(name, names)
        for function in self.run_by_operators():
            yields = any(isinstance(node, (ast.Yield, ast.YieldFrom)) for node in ast.walk(function))
            self.assertFalse(yields, f"{function.name}:{function.lineno}")

    def test_operators_change_only_what_they_created(self):
        names = [node.name for node in self.run_by_operators()]
        for name in ("__and__", "__or__", "queued", "closure", "highest"):
            self.assertIn(name, names)
        for function in self.run_by_operators():
            where = f"{function.name}:{function.lineno}"
            nodes = list(ast.walk(function))
            changed = [node.value for node in nodes if isinstance(node, ast.Subscript) and is_changed(node)]
            for node in nodes:
                if isinstance(node, ast.Attribute) and is_changed(node):
                    self.assertEqual((function.name, node.value.id), ("__init__", "self"), where)
                if isinstance(node, ast.Call) and getattr(node.func, "attr", "") in MODIFYING:
                    changed.append(node.func.value)
            for node in changed:
                self.assertIsInstance(node, ast.Name, where)
                made = [inner.value for inner in nodes if isinstance(inner, ast.Assign) and assigns(inner, node.id)]
                self.assertTrue(made and all(is_new(value) for value in made), where)

    def test_the_end_of_a_block_only_assigns(self):
        ends = [node for _, node in self.nodes(ast.FunctionDef) if node.name == "__exit__"]
        self.assertEqual(len(ends), 1)
        for node in ends[0].body[1:]:
            self.assertIsInstance(node, ast.Assign)
            self.assertIsInstance(node.value, ast.Attribute)

    def test_lists_are_sorted_anew(self):
        # Lists are not sorted in place in a package in which a class compares.
        for where, node in self.nodes(ast.Attribute):
            self.assertNotEqual(node.attr, "sort", where)

    def test_names(self):
        own = {node.id for _, node in self.nodes(ast.Name) if isinstance(node.ctx, ast.Store)}
        own |= {node.arg for _, node in self.nodes(ast.arg)}
        own |= {node.name for _, node in self.nodes((ast.FunctionDef, ast.ClassDef))}
        own |= {alias.name for _, node in self.nodes(ast.ImportFrom) for alias in node.names}
        for name in own:
            self.assertRegex(name, r"^(_?[A-Za-z][A-Za-z0-9_]*|_|__[a-z]+__)$")
            self.assertNotIn(name, BARRED)
            # A doctest that ran before may have left a "_" among the builtins.
            self.assertNotIn(name, set(dir(builtins)) - {"_"})
        for where, node in self.nodes(ast.Name):
            if isinstance(node.ctx, ast.Load) and node.id not in own:
                self.assertIn(node.id, BUILTINS, where)

    def test_no_name_has_two_meanings_in_a_file(self):
        for path, tree in self.trees.items():
            bound = [alias.name for node in tree.body if isinstance(node, ast.ImportFrom) for alias in node.names]
            bound += [node.name for node in tree.body if isinstance(node, (ast.FunctionDef, ast.ClassDef))]
            bound += [node.targets[0].id for node in tree.body if isinstance(node, ast.Assign)]
            self.assertEqual(len(bound), len(set(bound)), path)
            local = [node.arg for node in ast.walk(tree) if isinstance(node, ast.arg)]
            for function in ast.walk(tree):
                if isinstance(function, ast.FunctionDef):
                    names = [node for node in ast.walk(function) if isinstance(node, ast.Name)]
                    local += [node.id for node in names if isinstance(node.ctx, ast.Store)]
            self.assertEqual(set(local) & set(bound), set(), path)

    def test_methods_of_values(self):
        own = {node.name for _, node in self.nodes(ast.FunctionDef)}
        for where, node in self.nodes(ast.Call):
            if isinstance(node.func, ast.Attribute) and node.func.attr != "__init__":
                self.assertIn(node.func.attr, [*own, *METHODS], where)

    def test_sets_are_not_iterated(self):
        for where, node in self.nodes((ast.For, ast.comprehension)):
            self.assertNotIsInstance(node.iter, (ast.Set, ast.SetComp), where)
        for where, node in self.nodes(ast.GeneratorExp):
            self.fail(f"{where}: take a list")
        for where, node in self.nodes(ast.Set):
            self.assertFalse(any(isinstance(member, ast.Starred) for member in node.elts), where)

    def test_what_stands_in_calls_with_stars(self):
        # Beside a star stand only names, attributes and literals.
        plain = (ast.Name, ast.Attribute, ast.Constant)
        for where, node in self.nodes(ast.Call):
            if any(isinstance(part, ast.Starred) for part in node.args):
                for part in node.args:
                    self.assertIsInstance(part.value if isinstance(part, ast.Starred) else part, plain, where)

    def test_is_stands_beside_none_true_and_false(self):
        for where, node in self.nodes(ast.Compare):
            if isinstance(node.ops[0], (ast.Is, ast.IsNot)):
                right = node.comparators[0]
                self.assertTrue(isinstance(right, ast.Constant) and right.value in (None, True, False), where)

    def test_words(self):
        words = "typing|enum|Enum|Generic|Protocol|ABC|NamedTuple|TypedDict|dataclass|overload|contextmanager|_wall"
        for path, source in self.sources.items():
            self.assertIsNone(re.search(rf"\b({words})\b", source), path)
            self.assertNotIn("%", source, path)


if __name__ == "__main__":
    unittest.main()
