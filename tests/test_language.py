"""The files of the package keep to the subset of the language that can be checked mechanically."""

import ast
import pathlib
import re
import unittest

PACKAGE = pathlib.Path(__file__).resolve().parent.parent / "registerways"

BUILTINS = {
    "len", "range", "enumerate", "zip", "min", "max", "sum", "abs", "sorted", "reversed", "int", "str", "bool",
    "bytes", "list", "tuple", "dict", "set", "frozenset", "isinstance", "ord", "repr", "any", "all", "divmod",
    "iter", "next", "map", "Exception", "ValueError", "TypeError", "KeyError", "IndexError", "LookupError",
    "ZeroDivisionError", "ArithmeticError", "OverflowError", "RuntimeError", "NotImplementedError",
    "AttributeError", "StopIteration", "NotImplemented", "property", "staticmethod", "classmethod", "super",
}

LIBRARY = {
    "heapq": {"heappush", "heappop", "heapify", "heapreplace", "heappushpop"},
    "math": {"gcd", "lcm", "isqrt", "comb", "perm", "factorial"},
    "itertools": {"product", "combinations", "permutations"},
}

METHODS = set(
    "append clear copy count endswith extend find get index insert isalnum isalpha isdigit islower isspace isupper "
    "items join keys ljust lower lstrip partition pop remove replace reverse rfind rjust rpartition rsplit rstrip "
    "setdefault split splitlines startswith strip update upper values zfill bit_length add discard".split()
)

STATEMENTS = (
    ast.Assign, ast.AugAssign, ast.AnnAssign, ast.If, ast.While, ast.For, ast.Return, ast.Break, ast.Continue,
    ast.Pass, ast.Raise, ast.Assert, ast.Delete, ast.Nonlocal, ast.Match, ast.With, ast.Try, ast.Expr,
    ast.FunctionDef, ast.ClassDef, ast.ImportFrom,
)

# Not as attributes, because values of Python have methods of these names.
ATTRIBUTES = {
    "items", "keys", "values", "pop", "update", "append", "clear", "extend", "insert", "remove", "reverse",
    "setdefault", "sort", "args", "encode", "decode", "hex", "fromhex", "format", "format_map", "mro", "register",
    "elements", "open", "input", "law",
}

BARRED_WORDS = re.compile(
    r"\b(type|typing|typing_extensions|enum|Enum|IntEnum|StrEnum|Flag|IntFlag|Generic|Protocol|ABC|ABCMeta|namedtuple"
    r"|NamedTuple|TypedDict|TYPE_CHECKING|abstractmethod|_wall|_WallAttr)\b|dataclass|overload|contextmanager"
    r"|\(type\)|Meta|metaclass="
)

CALLED_OVER_LISTS = ("any", "all", "min", "max", "sum", "sorted")

# What changes a value: none of it stands in what an operator or a property runs.
CHANGING = {
    "append", "clear", "extend", "insert", "pop", "remove", "reverse", "setdefault", "update", "add", "discard",
}

OUTER_WORDS = re.compile(r"\b(register|mro|elements|open|input|law|eval|exec|getattr|setattr|globals|vars|_wall)\b")


def trees():
    for path in sorted(PACKAGE.rglob("*.py")):
        yield path.name, ast.parse(path.read_text(encoding="utf-8"))


def every(tree, kind):
    return [node for node in ast.walk(tree) if isinstance(node, kind)]


def docstrings(tree):
    found = []
    for node in [tree, *every(tree, (ast.FunctionDef, ast.ClassDef))]:
        if ast.get_docstring(node) is not None:
            found.append(node.body[0].value)
    return found


class LanguageTest(unittest.TestCase):
    def test_the_package_holds_nothing_but_its_files(self):
        for path in PACKAGE.iterdir():
            if path.name != "__pycache__":
                self.assertRegex(path.name, r"^[a-z_][a-z0-9_]*\.py$")
        self.assertTrue((PACKAGE / "__init__.py").is_file())

    def test_lines_and_characters(self):
        for path in PACKAGE.rglob("*.py"):
            text = path.read_bytes().decode("ascii")
            self.assertTrue(text.endswith("\n"), path.name)
            lines = text.split("\n")
            self.assertLessEqual(len(lines) - 1, 399, path.name)
            for number, line in enumerate(lines, start=1):
                with self.subTest(file=path.name, line=number):
                    self.assertLessEqual(len(line), 120)
                    self.assertRegex(line, r"^[ -~]*$")

    def test_functions_are_short(self):
        for file, tree in trees():
            for node in every(tree, ast.FunctionDef):
                with self.subTest(file=file, name=node.name):
                    self.assertLessEqual(node.end_lineno - node.lineno + 1, 40)

    def test_statements(self):
        for file, tree in trees():
            for node in every(tree, ast.stmt):
                with self.subTest(file=file, line=node.lineno):
                    self.assertIsInstance(node, STATEMENTS)

    def test_module_level(self):
        for file, tree in trees():
            names = []
            for node in tree.body:
                with self.subTest(file=file, line=node.lineno):
                    if isinstance(node, ast.ImportFrom):
                        names.extend(alias.asname or alias.name for alias in node.names)
                    elif isinstance(node, ast.Assign):
                        self.assertEqual(len(node.targets), 1)
                        self.assertEqual(every(node.value, (ast.Call, ast.Set)), [])
                        names.append(node.targets[0].id)
                    elif isinstance(node, (ast.FunctionDef, ast.ClassDef)):
                        names.append(node.name)
                    else:
                        self.assertIn(node.value, docstrings(tree))
            self.assertEqual(len(names), len(set(names)), file)

    def test_imports(self):
        edges = {}
        for file, tree in trees():
            edges[file] = []
            for node in every(tree, (ast.Import, ast.ImportFrom)):
                with self.subTest(file=file, line=node.lineno):
                    self.assertIsInstance(node, ast.ImportFrom)
                    self.assertIn(node, tree.body)
                    self.assertEqual(node.level, 0)
                    names = {alias.name for alias in node.names}
                    if node.module in LIBRARY:
                        self.assertLessEqual(names, LIBRARY[node.module])
                        continue
                    package, source = node.module.split(".")
                    self.assertEqual(package, "registerways")
                    defined = ast.parse((PACKAGE / f"{source}.py").read_text(encoding="utf-8")).body
                    self.assertLessEqual(names, {getattr(each, "name", None) for each in defined} | {
                        each.targets[0].id for each in defined if isinstance(each, ast.Assign)
                    })
                    edges[file].append(f"{source}.py")
        while edges:
            free = [file for file, sources in edges.items() if not any(source in edges for source in sources)]
            self.assertTrue(free, f"these import from each other: {sorted(edges)}")
            for file in free:
                del edges[file]

    def test_no_local_name_is_that_of_an_import_or_a_class(self):
        for file, tree in trees():
            outer = {alias.name for node in every(tree, ast.ImportFrom) for alias in node.names}
            outer |= {node.name for node in every(tree, ast.ClassDef)}
            own = {node.arg for node in every(tree, ast.arg)}
            own |= {node.id for node in every(tree, ast.Name) if isinstance(node.ctx, ast.Store)}
            self.assertEqual(own & outer, set(), file)

    def test_names(self):
        import builtins
        barred = set(dir(builtins))
        for file, tree in trees():
            given = {node.arg for node in every(tree, ast.arg)}
            given |= {node.id for node in every(tree, ast.Name) if isinstance(node.ctx, ast.Store)}
            given |= {node.name for node in tree.body if isinstance(node, (ast.FunctionDef, ast.ClassDef))}
            self.assertEqual(given & barred, set(), file)
            for name in given:
                self.assertNotRegex(name, "^__", file)
                self.assertNotRegex(name, f"^(?:{OUTER_WORDS.pattern})$", file)
            for node in every(tree, ast.Name):
                if isinstance(node.ctx, ast.Load) and node.id in barred:
                    with self.subTest(file=file, line=node.lineno):
                        self.assertIn(node.id, BUILTINS)

    def test_methods(self):
        own = set()
        for _, tree in trees():
            own |= {node.name for node in every(tree, ast.FunctionDef)}
        for file, tree in trees():
            for node in every(tree, ast.Call):
                if isinstance(node.func, ast.Attribute):
                    with self.subTest(file=file, line=node.lineno):
                        self.assertIn(node.func.attr, METHODS | own)

    def test_expressions(self):
        for file, tree in trees():
            self.assertEqual(every(tree, (ast.Div, ast.Await, ast.Global)), [], file)
            for node in every(tree, ast.Constant):
                with self.subTest(file=file, line=node.lineno):
                    self.assertNotIsInstance(node.value, (float, complex))
                    if isinstance(node.value, str):
                        self.assertNotIn("%", node.value)
                        self.assertNotRegex(node.value, r"^__.*__$")

    def test_attributes(self):
        for file, tree in trees():
            for node in every(tree, ast.Attribute):
                if isinstance(node.ctx, ast.Store):
                    with self.subTest(file=file, line=node.lineno):
                        self.assertNotIn(node.attr, ATTRIBUTES)

    def test_words(self):
        for path in PACKAGE.rglob("*.py"):
            for number, line in enumerate(path.read_text(encoding="utf-8").split("\n"), start=1):
                with self.subTest(file=path.name, line=number):
                    self.assertIsNone(BARRED_WORDS.search(line))

    def test_lists_instead_of_generators(self):
        for file, tree in trees():
            for node in every(tree, ast.Call):
                if isinstance(node.func, ast.Name) and node.func.id in CALLED_OVER_LISTS:
                    with self.subTest(file=file, line=node.lineno):
                        self.assertNotIsInstance(node.args[0], ast.GeneratorExp)

    def test_generators_are_iterated_at_once(self):
        generators, others = set(), set()
        for _, tree in trees():
            for node in every(tree, ast.FunctionDef):
                (generators if every(node, (ast.Yield, ast.YieldFrom)) else others).add(node.name)
        self.assertEqual(generators & others, set())
        for file, tree in trees():
            at_once = [node.iter for node in every(tree, (ast.For, ast.comprehension))]
            for node in every(tree, ast.Call):
                if isinstance(node.func, ast.Name) and node.func.id in ("list", "tuple", "dict", "sum"):
                    at_once.extend(node.args)
            for node in every(tree, ast.Call):
                name = getattr(node.func, "id", getattr(node.func, "attr", None))
                if name in generators:
                    with self.subTest(file=file, line=node.lineno):
                        self.assertIn(node, at_once)

    def test_a_class_with_items_says_how_it_is_iterated(self):
        for file, tree in trees():
            for node in every(tree, ast.ClassDef):
                names = [each.name for each in node.body if isinstance(each, ast.FunctionDef)]
                with self.subTest(file=file, name=node.name):
                    self.assertEqual(len(names), len(set(names)))
                    self.assertTrue("__iter__" in names or "__getitem__" not in names)

    def test_operators_and_properties_change_nothing(self):
        functions = {}
        waiting = []
        for file, tree in trees():
            for node in every(tree, ast.FunctionDef):
                functions.setdefault(node.name, []).append((file, node))
                if node.name.startswith("__") and node.name not in ("__init__", "__call__"):
                    waiting.append(node.name)
                elif any(getattr(each, "id", None) == "property" for each in node.decorator_list):
                    waiting.append(node.name)
        seen = set()
        while waiting:
            name = waiting.pop()
            if name in seen or name not in functions:
                continue
            seen.add(name)
            for file, node in functions[name]:
                with self.subTest(file=file, name=name):
                    for each in every(node, ast.Attribute):
                        self.assertIsInstance(each.ctx, ast.Load)
                    self.assertEqual(every(node, (ast.Yield, ast.YieldFrom, ast.Global)), [])
                    for call in every(node, ast.Call):
                        if isinstance(call.func, ast.Attribute):
                            self.assertNotIn(call.func.attr, CHANGING)
                            waiting.append(call.func.attr)
                        else:
                            waiting.append(call.func.id)

    def test_no_sets(self):
        for file, tree in trees():
            self.assertEqual(every(tree, (ast.Set, ast.SetComp)), [], file)
            for node in every(tree, ast.Name):
                self.assertNotIn(node.id, ("set", "frozenset"), file)

    def test_no_loop_changes_what_it_goes_over(self):
        for file, tree in trees():
            for loop in every(tree, ast.For):
                parts = [node for node in ast.walk(loop.iter) if isinstance(node, (ast.Name, ast.Attribute))]
                gone_over = {ast.dump(node) for node in parts}
                changed = []
                for node in (each for row in loop.body for each in ast.walk(row)):
                    if isinstance(node, ast.Call) and isinstance(node.func, ast.Attribute):
                        if node.func.attr in CHANGING:
                            changed.append(node.func.value)
                    elif isinstance(node, ast.Subscript) and not isinstance(node.ctx, ast.Load):
                        changed.append(node.value)
                with self.subTest(file=file, line=loop.lineno):
                    self.assertEqual(gone_over & {ast.dump(node) for node in changed}, set())

    def test_stars_in_calls_stand_before_names(self):
        for file, tree in trees():
            for node in every(tree, ast.Call):
                for each in node.args:
                    if isinstance(each, ast.Starred):
                        with self.subTest(file=file, line=node.lineno):
                            self.assertIsInstance(each.value, (ast.Name, ast.Attribute))

    def test_lambdas_and_default_values(self):
        for file, tree in trees():
            found = []
            for node in every(tree, ast.Lambda):
                found.append((node.lineno, tuple(each.arg for each in node.args.args)))
            self.assertEqual(len(found), len(set(found)), file)
            for node in every(tree, ast.arguments):
                for value in node.defaults:
                    self.assertIsInstance(value, ast.Constant)

    def test_super_is_called_in_init_only(self):
        for file, tree in trees():
            allowed = set()
            for function in every(tree, ast.FunctionDef):
                if function.name == "__init__":
                    allowed |= {ast.dump(row) for row in function.body if isinstance(row, ast.Expr)}
            for node in every(tree, ast.Expr):
                if "'super'" in ast.dump(node):
                    self.assertIn(ast.dump(node), allowed, file)
                    self.assertRegex(ast.unparse(node), r"^super\(\)\.__init__\(")

    def test_methods_and_attributes_have_unlike_names(self):
        properties, methods, attributes = set(), set(), set()
        for _, tree in trees():
            for node in every(tree, ast.ClassDef):
                for each in node.body:
                    if isinstance(each, ast.FunctionDef):
                        (properties if each.decorator_list else methods).add(each.name)
            attributes |= {
                node.attr for node in every(tree, ast.Attribute)
                if isinstance(node.ctx, ast.Store) and not isinstance(node.value, ast.Subscript)
            }
        self.assertEqual(methods & attributes, set())
        self.assertEqual(properties & attributes, set())
        self.assertEqual(properties & methods, set())

    def test_only_what_stands_beside_a_class_is_read_off_it(self):
        classes = {node.name for _, tree in trees() for node in every(tree, ast.ClassDef)}
        for file, tree in trees():
            for node in every(tree, ast.Attribute):
                if isinstance(node.value, ast.Name):
                    with self.subTest(file=file, line=node.lineno):
                        self.assertNotIn(node.value.id, classes)

    def test_each_attribute_that_is_read_is_assigned(self):
        known = set(METHODS) | {"__init__"}
        for _, tree in trees():
            known |= {node.attr for node in every(tree, ast.Attribute) if isinstance(node.ctx, ast.Store)}
            known |= {node.name for node in every(tree, ast.FunctionDef)}
        for file, tree in trees():
            for node in every(tree, ast.Attribute):
                with self.subTest(file=file, line=node.lineno):
                    self.assertIn(node.attr, known)

    def test_each_import_and_function_is_used(self):
        names = {}
        for file, tree in trees():
            names[file] = {node.id for node in every(tree, ast.Name)}
            names[file] |= {node.attr for node in every(tree, ast.Attribute)}
        interface = pathlib.Path(__file__).with_name("test_interface.py").read_text(encoding="utf-8")
        for file, tree in trees():
            for node in every(tree, ast.ImportFrom):
                for alias in node.names:
                    with self.subTest(file=file, name=alias.name):
                        self.assertIn(alias.name, names[file])
            for node in every(tree, ast.FunctionDef):
                if not node.name.startswith("__") and f'"{node.name}"' not in interface:
                    with self.subTest(file=file, name=node.name):
                        self.assertTrue(any(node.name in each for each in names.values()))

    def test_is_stands_beside_none_true_and_false(self):
        for file, tree in trees():
            for node in every(tree, ast.Compare):
                for sign, side in zip(node.ops, node.comparators):
                    if isinstance(sign, (ast.Is, ast.IsNot)):
                        with self.subTest(file=file, line=node.lineno):
                            self.assertIsInstance(side, ast.Constant)
                            self.assertIn(side.value, (None, True, False))

    def test_docstrings(self):
        for file, tree in trees():
            for node in [tree, *every(tree, (ast.FunctionDef, ast.ClassDef))]:
                name = getattr(node, "name", file)
                if not name.startswith("__"):
                    with self.subTest(file=file, name=name):
                        self.assertIsNotNone(ast.get_docstring(node))


if __name__ == "__main__":
    unittest.main()
