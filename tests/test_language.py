"""What of ../shared/LANGUAGE.md can be seen at once in the files of the package."""

import ast
import builtins
import os
import unittest

import strayjoins

FOLDER = os.path.dirname(strayjoins.__file__)
LIBRARY = {
    "heapq": "heappush heappop heapify heapreplace heappushpop", "math": "gcd lcm isqrt comb perm factorial",
    "itertools": "product combinations permutations chain accumulate pairwise islice zip_longest", "collections": "defaultdict",
}
BUILTINS = set("""
    len range enumerate zip min max sum abs sorted reversed int str bool bytes list tuple dict set frozenset isinstance ord repr any
    all divmod pow getattr hasattr setattr iter next map super property staticmethod classmethod Exception ValueError TypeError
    KeyError IndexError LookupError ZeroDivisionError ArithmeticError OverflowError RuntimeError NotImplementedError
    AttributeError StopIteration NotImplemented
""".split())
DOUBLE = set("""
    init eq repr str len enter exit call iter lt le gt ge ne add sub mul floordiv mod pow and or xor lshift rshift neg pos
    invert abs bool contains getitem setitem
""".split())
METHODS = set("""
    append clear copy count endswith extend find get index insert isalnum isalpha isdigit islower isspace isupper items join keys
    ljust lower lstrip partition pop remove replace reverse rfind rjust rpartition rsplit rstrip setdefault split splitlines
    startswith strip update upper values zfill bit_length
""".split())
NEVER = set("""
    register mro elements open input law version_info with_traceback add_note attrgetter breakpoint builtins compile copyright
    credits delattr dir eval exec exit gc globals help id importlib license locals methodcaller os quit type vars sys
""".split())
STATEMENTS = (
    ast.Assign, ast.AugAssign, ast.AnnAssign, ast.If, ast.While, ast.For, ast.Return, ast.Break, ast.Continue, ast.Pass, ast.Raise,
    ast.Assert, ast.Delete, ast.Nonlocal, ast.Match, ast.With, ast.Try, ast.Expr, ast.FunctionDef, ast.ClassDef, ast.ImportFrom,
)
FUNCTIONS = (ast.FunctionDef, ast.Lambda)


def source_files():
    """The name and the text of each file of the package."""
    found = {}
    for name in sorted(os.listdir(FOLDER)):
        if name != "__pycache__":
            with open(os.path.join(FOLDER, name), encoding="utf-8", newline="") as file:
                found[name] = file.read()
    return found


FILES = source_files()
TREES = {name: ast.parse(text) for name, text in FILES.items() if name.endswith(".py")}


def nodes(*kinds):
    """The nodes of these kinds in all files, each with a place to tell."""
    for name, tree in TREES.items():
        for node in ast.walk(tree):
            if isinstance(node, kinds):
                yield f"{name}:{getattr(node, 'lineno', '?')}", node


def bound_names(node):
    """The names that a node binds."""
    if isinstance(node, ast.Name):
        return [node.id] if isinstance(node.ctx, ast.Store) else []
    if isinstance(node, (ast.FunctionDef, ast.ClassDef)):
        return [node.name]
    if isinstance(node, ast.arg):
        return [node.arg]
    if isinstance(node, ast.alias):
        return [node.asname or node.name]
    return []


def methods_by_class():
    """For each class of the package its own methods."""
    return {node.name: {row.name: row for row in node.body if isinstance(row, ast.FunctionDef)} for _, node in nodes(ast.ClassDef)}


class Language(unittest.TestCase):
    def test_files(self):
        self.assertIn("__init__.py", FILES)
        self.assertLessEqual(len(FILES), 100)
        for name in FILES:
            self.assertRegex(name, r"^[a-z0-9_]+\.py$")
            self.assertNotIn(name[:-3], dir(builtins))

    def test_characters_and_sizes(self):
        for name, text in FILES.items():
            self.assertTrue(all(" " <= sign <= "~" or sign == "\n" for sign in text), name)
            lines = text.split("\n")
            self.assertLessEqual(len(lines), 400, name)
            self.assertLessEqual(max(len(line) for line in lines), 120, name)
        for place, node in nodes(ast.FunctionDef):
            self.assertLessEqual(node.end_lineno - node.lineno + 1, 40, place)

    def test_imports(self):
        defined = {name: [row.name for row in tree.body if isinstance(row, (ast.FunctionDef, ast.ClassDef))]
                   + [row.targets[0].id for row in tree.body if isinstance(row, ast.Assign)] for name, tree in TREES.items()}
        for place, node in nodes(ast.Import, ast.ImportFrom):
            self.assertIsInstance(node, ast.ImportFrom, place)
            self.assertEqual((node.level, [one.asname for one in node.names if one.asname]), (0, []), place)
            for one in node.names:
                if node.module in LIBRARY:
                    self.assertIn(one.name, LIBRARY[node.module].split(), place)
                else:
                    package, file = node.module.split(".")
                    self.assertEqual(package, "strayjoins", place)
                    self.assertIn(one.name, defined[file + ".py"], place)

    def test_imports_go_one_way(self):
        after = {name: {row.module.split(".")[1] + ".py" for row in tree.body if isinstance(row, ast.ImportFrom)
                        and row.module not in LIBRARY} for name, tree in TREES.items()}
        while after:
            free = [name for name in after if not after[name] & set(after)]
            self.assertTrue(free, after)
            after = {name: needs for name, needs in after.items() if name not in free}

    def test_module_level(self):
        for name, tree in TREES.items():
            bound = [one for row in tree.body for one in bound_names(row)]
            for row in tree.body:
                told = isinstance(row, ast.Expr) and isinstance(row.value, ast.Constant) and isinstance(row.value.value, str)
                self.assertTrue(told or isinstance(row, (ast.ImportFrom, ast.FunctionDef, ast.ClassDef, ast.Assign)), (name, row.lineno))
                if isinstance(row, ast.Assign):
                    self.assertFalse([one for one in ast.walk(row.value) if isinstance(one, (ast.Call, ast.ListComp, ast.Set))])
            self.assertEqual(len(bound), len(set(bound)), name)

    def test_statements(self):
        for place, node in nodes(ast.stmt):
            self.assertIsInstance(node, STATEMENTS, place)
        for place, node in nodes(ast.FunctionDef):
            for row in node.decorator_list:
                self.assertRegex(ast.unparse(row), r"^(property|staticmethod|classmethod|\w+\.setter)$", place)
        for place, node in nodes(ast.ClassDef):
            self.assertEqual(node.decorator_list, [], place)

    def test_names(self):
        for place, node in nodes(ast.AST):
            for name in bound_names(node):
                double = name.startswith("__") and name.endswith("__")
                if double:
                    self.assertIn(name[2:-2], DOUBLE, place)
                else:
                    self.assertRegex(name, r"^(_|_?[A-Za-z][A-Za-z0-9_]*)$", place)
                self.assertNotIn(name, NEVER, place)
                self.assertNotIn(name, dir(builtins), place)

    def test_builtins(self):
        bound = {name for _, node in nodes(ast.AST) for name in bound_names(node)}
        for place, node in nodes(ast.Name):
            if node.id not in bound and node.id in dir(builtins):
                self.assertIn(node.id, BUILTINS, place)

    def test_methods_that_are_called(self):
        own = {name for methods in methods_by_class().values() for name in methods}
        for place, node in nodes(ast.Call):
            if isinstance(node.func, ast.Attribute) and node.func.attr != "__init__":
                self.assertIn(node.func.attr, METHODS | own, place)

    def test_expressions(self):
        for place, node in nodes(ast.Constant):
            self.assertNotIsInstance(node.value, (float, complex), place)
            if isinstance(node.value, str):
                self.assertNotIn("%", node.value, place)
        for place, node in nodes(ast.BinOp, ast.AugAssign):
            self.assertNotIsInstance(node.op, (ast.Div, ast.MatMult), place)
        for place, node in nodes(ast.Compare):
            for sign, right in zip(node.ops, node.comparators):
                if isinstance(sign, (ast.Is, ast.IsNot)):
                    self.assertIn(ast.unparse(right), ("None", "True", "False"), place)
        for place, node in nodes(ast.Set):
            self.assertLessEqual(len(node.elts), 2, place)

    def test_lists_instead_of_generator_expressions(self):
        for place, node in nodes(ast.Call):
            if isinstance(node.func, ast.Name) and node.func.id in ("any", "all", "min", "max", "sum", "sorted"):
                self.assertFalse([one for one in node.args if isinstance(one, ast.GeneratorExp)], place)

    def test_sets(self):
        for place, node in nodes(ast.Call):
            inner = node.args[0] if node.args else None
            if isinstance(inner, ast.SetComp) or isinstance(inner, ast.Call) and ast.unparse(inner.func) == "set":
                self.assertIn(ast.unparse(node.func), ("len", "sorted"), place)

    def test_classes(self):
        for name, methods in methods_by_class().items():
            if "__getitem__" in methods:
                self.assertIn("__iter__", methods, name)
            for title in ("__str__", "__repr__", "__len__"):
                if title in methods:
                    self.assertIsInstance(methods[title].body[-1], ast.Return, name)

    def test_generators_have_names_of_their_own(self):
        generators = [node.name for _, node in nodes(ast.FunctionDef)
                      if [one for one in ast.walk(node) if isinstance(one, (ast.Yield, ast.YieldFrom))]]
        names = [node.name for _, node in nodes(ast.FunctionDef)]
        for name in generators:
            self.assertEqual(names.count(name), 1, name)

    def test_generators_are_iterated_at_once(self):
        generators = {node.name for _, node in nodes(ast.FunctionDef)
                      if [one for one in ast.walk(node) if isinstance(one, (ast.Yield, ast.YieldFrom))]}
        walked = set()
        for _, node in nodes(ast.For, ast.comprehension):
            walked.add(node.iter)
        for _, node in nodes(ast.YieldFrom):
            walked.add(node.value)
        for place, node in nodes(ast.Call):
            name = node.func.id if isinstance(node.func, ast.Name) else getattr(node.func, "attr", None)
            if name in generators:
                self.assertIn(node, walked, place)
        for place, node in nodes(ast.Name):
            if node.id in generators and not isinstance(node.ctx, ast.Load):
                self.fail(place)

    def test_attributes(self):
        methods = [name for own in methods_by_class().values() for name in own]
        properties = [name for own in methods_by_class().values() for name, row in own.items() if row.decorator_list]
        values = [ast.unparse(row.targets[0]) for _, node in nodes(ast.ClassDef) for row in node.body if isinstance(row, ast.Assign)]
        stored = {node.attr for _, node in nodes(ast.Attribute) if isinstance(node.ctx, ast.Store)}
        self.assertEqual((stored - {"wires"}) & set(properties), set())
        for place, node in nodes(ast.Attribute):
            if isinstance(node.ctx, ast.Load) and node.attr != "setter":
                self.assertIn(node.attr, stored | set(methods) | set(values) | METHODS, place)
            self.assertNotRegex(node.attr, "^(_wall|_pe_|_dcw_|_enum_|_cm_|_twin_re_|_lay_|_law_|_stub_|_sre)", place)

    def test_blocks_that_are_left(self):
        for name, methods in methods_by_class().items():
            if "__exit__" in methods:
                told = [one.id for one in ast.walk(methods["__exit__"]) if isinstance(one, ast.Name)]
                self.assertFalse({"kind", "value", "trace"} & set(told), name)
                for row in methods["__exit__"].body:
                    self.assertIsInstance(row, ast.Assign, name)
                    self.assertRegex(ast.unparse(row), r"^\w+ = self\.\w+$|^\w+\.\w+ = self\.\w+$", name)

    def test_properties_have_names_of_their_own(self):
        plain, properties = set(), set()
        for methods in methods_by_class().values():
            for name, method in methods.items():
                told = [ast.unparse(row) for row in method.decorator_list]
                (properties if "property" in told or f"{name}.setter" in told else plain).add(name)
        self.assertEqual(plain & properties, set())


if __name__ == "__main__":
    unittest.main()
