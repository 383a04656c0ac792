"""[52]: each name stands under its module, with its parameters, their defaults, and its own methods."""

import importlib
import inspect
import unittest

FUNCTIONS = {
    "flow": {
        "dominates": ("program", "upper", "lower"),
        "below": ("program",),
        "avoiding": ("program", "upper", "lower"),
    },
    "texts": {
        "program_text": ("program",),
        "read_program": ("text",),
    },
    "running": {
        "run": ("program", "inputs", ("fuel", 200)),
        "trail": ("program", "inputs", ("fuel", 200)),
    },
    "liveness": {
        "points": ("program",),
        "live": ("program", "point"),
        "held": ("program", "point"),
        "use_path": ("program", "point", "name"),
    },
    "conflicts": {
        "conflict": ("program", "first", "second"),
        "earlier": ("program", "name"),
        "conflicts": ("program",),
        "fewest": ("program",),
    },
    "allocations": {
        "how_many": ("program", "size"),
        "allocation_at": ("program", "size", "number"),
        "first_fit": ("program", "size"),
        "each_allocation": ("program", "size", ("start", 0)),
    },
    "swaps": {
        "chain": ("allocation", "name", "reg"),
        "swapped": ("allocation", "name", "reg"),
        "swap_way": ("one", "other"),
    },
    "reassigning": {
        "reassigned": ("allocation", "name", "reg"),
        "free_registers": ("allocation", "name"),
        "reassign_way": ("one", "other"),
    },
    "joining": {
        "fixed": ("allocation",),
        "joined": ("one", "other"),
        "reachable": ("allocation",),
        "shortest_way": ("one", "other"),
    },
    "shapes": {"realized": ("names", "pairs")},
    "copying": {"in_turn": ("copies", "spare")},
    "flatcode": {
        "copies_needed": ("allocation",),
        "fewest_copies": ("program", "size"),
    },
}

CLASSES = {
    "programs": {"Program": (("blocks",), ("__len__", "__contains__"), ("order",))},
    "running": {"Result": (("told", "given", "spent"), (), ())},
    "allocations": {
        "Allocation": (
            ("program", "size", "registers"),
            ("__getitem__", "__eq__", "__lt__", "__le__", "__gt__", "__ge__"),
            ("rank",),
        ),
    },
    "machines": {"Code": (("allocation",), ("__call__", "states"), ())},
    # The document says nothing of what a verdict is made with.
    "joining": {"Verdict": (None, ("__bool__",), ())},
    "flatcode": {"Flat": (("allocation",), ("__call__",), ())},
    "keeping": {
        "Kept": (
            ("program", "size"),
            ("put_in", "take_out", "resize", "rename", "reassign", "swap", "back", "again"),
            ("now", "changed"),
        ),
    },
}

METHODS = {
    ("machines", "Code", "__call__"): ("self", "inputs", ("fuel", 200)),
    ("machines", "Code", "states"): ("self", "inputs", ("fuel", 200)),
    ("flatcode", "Flat", "__call__"): ("self", "inputs", ("fuel", 2000)),
    ("keeping", "Kept", "put_in"): ("self", "block", "at", "instruction"),
    ("keeping", "Kept", "take_out"): ("self", "block", "at"),
    ("keeping", "Kept", "resize"): ("self", "size"),
    ("keeping", "Kept", "rename"): ("self", "name", "new"),
    ("keeping", "Kept", "reassign"): ("self", "name", "reg"),
    ("keeping", "Kept", "swap"): ("self", "name", "reg"),
    ("keeping", "Kept", "back"): ("self",),
    ("keeping", "Kept", "again"): ("self",),
}

EXAMPLE = (
    "block a b\ngo 1 a b\nblock x y\nt = less x 100\nif t 2 else 3\n"
    "block\nz = add x y\ngo 1 y x\nblock\ngive x"
)


def module(name):
    return importlib.import_module(f"registerways.{name}")


def parameters_of(function):
    """Its parameters: the name of each, or the name and the default value."""
    return tuple(
        each.name if each.default is inspect.Parameter.empty else (each.name, each.default)
        for each in inspect.signature(function).parameters.values()
    )


class InterfaceTest(unittest.TestCase):
    def test_functions(self):
        for file, functions in FUNCTIONS.items():
            for name, parameters in functions.items():
                with self.subTest(file=file, name=name):
                    function = getattr(module(file), name)
                    self.assertTrue(inspect.isfunction(function))
                    self.assertEqual(function.__module__, f"registerways.{file}")
                    self.assertEqual(parameters_of(function), parameters)
                    for parameter in inspect.signature(function).parameters.values():
                        self.assertEqual(parameter.kind, inspect.Parameter.POSITIONAL_OR_KEYWORD)

    def test_classes(self):
        for file, classes in CLASSES.items():
            for name, (parameters, methods, properties) in classes.items():
                with self.subTest(file=file, name=name):
                    found = getattr(module(file), name)
                    self.assertTrue(inspect.isclass(found))
                    self.assertEqual(found.__module__, f"registerways.{file}")
                    if parameters is not None:
                        self.assertEqual(parameters_of(found), parameters)
                    for method in methods:
                        self.assertTrue(inspect.isfunction(vars(found)[method]))
                    for each in properties:
                        self.assertIsInstance(vars(found)[each], property)

    def test_methods(self):
        for (file, name, method), parameters in METHODS.items():
            with self.subTest(file=file, name=name, method=method):
                found = vars(getattr(module(file), name))[method]
                self.assertEqual(found.__module__, f"registerways.{file}")
                self.assertEqual(parameters_of(found), parameters)
                for parameter in inspect.signature(found).parameters.values():
                    self.assertEqual(parameter.kind, inspect.Parameter.POSITIONAL_OR_KEYWORD)

    def test_attributes_are_set_when_an_object_is_created(self):
        program = module("texts").read_program("block a\ngive a")
        allocation = module("allocations").Allocation(program, 1, (0,))
        for made, names in (
            (program, ("blocks",)),
            (module("running").Result((), None, 0), ("told", "given", "spent")),
            (module("running").run(program, (1,)), ("told", "given", "spent")),
            (allocation, ("program", "size", "registers")),
            (module("machines").Code(allocation), ("size", "blocks")),
            (module("flatcode").Flat(allocation), ("size", "rows")),
            (module("joining").joined(allocation, allocation), ("holds", "way", "name", "point", "numbers")),
        ):
            for name in names:
                with self.subTest(made=made, name=name):
                    self.assertIn(name, vars(made))

    def test_errors_stand_in_their_module(self):
        for name, value in vars(module("errors")).items():
            if inspect.isclass(value):
                with self.subTest(name=name):
                    self.assertEqual(value.__module__, "registerways.errors")


def seen(value):
    """What can be compared of a value that a call returns."""
    if hasattr(value, "__next__"):
        return [seen(each) for each in value]
    if isinstance(value, tuple):
        return tuple(seen(each) for each in value)
    if type(value).__module__.startswith("registerways.") and not hasattr(value, "registers"):
        return {name: seen(each) for name, each in vars(value).items()}
    return value


class KeywordTest(unittest.TestCase):
    """Each function, class and method, called by the names of its parameters, in both orders."""

    def setUp(self):
        self.program = module("texts").read_program(EXAMPLE)
        self.one = module("allocations").Allocation(self.program, 4, (0, 1, 0, 1, 2, 2))
        self.other = module("allocations").Allocation(self.program, 4, (1, 0, 2, 0, 1, 3))
        self.small = module("texts").read_program("block a b\ngive a")
        self.few = module("allocations").Allocation(self.small, 3, (0, 2))
        self.more = module("allocations").Allocation(self.small, 3, (2, 1))

    def values(self):
        """For each function and class the values of all its parameters."""
        p, one, other = self.program, self.one, self.other
        return {
            ("flow", "dominates"): (p, 2, 3), ("flow", "below"): (p,), ("flow", "avoiding"): (p, 2, 3),
            ("texts", "program_text"): (p,), ("texts", "read_program"): (EXAMPLE,),
            ("running", "run"): (p, (3, 250), 7), ("running", "trail"): (p, (3, 250), 7),
            ("running", "Result"): ((1,), (2,), 3),
            ("liveness", "points"): (p,), ("liveness", "live"): (p, (2, 1)), ("liveness", "held"): (p, (2, 1)),
            ("liveness", "use_path"): (p, (1, 1), "y"),
            ("conflicts", "conflict"): (p, "x", "a"), ("conflicts", "earlier"): (p, "z"),
            ("conflicts", "conflicts"): (p,), ("conflicts", "fewest"): (p,),
            ("allocations", "Allocation"): (p, 3, (0, 1, 0, 1, 2, 2)), ("allocations", "how_many"): (p, 3),
            ("allocations", "allocation_at"): (p, 3, 16), ("allocations", "first_fit"): (p, 3),
            ("allocations", "each_allocation"): (p, 3, 30),
            ("programs", "Program"): (p.blocks,),
            ("machines", "Code"): (one,), ("flatcode", "Flat"): (one,), ("keeping", "Kept"): (p, 4),
            ("swaps", "chain"): (one, "x", 2), ("swaps", "swapped"): (one, "x", 2), ("swaps", "swap_way"): (one, other),
            ("reassigning", "reassigned"): (one, "x", 3), ("reassigning", "free_registers"): (one, "x"),
            ("reassigning", "reassign_way"): (one, other),
            ("joining", "fixed"): (one,), ("joining", "joined"): (one, other), ("joining", "reachable"): (self.few,),
            ("joining", "shortest_way"): (self.few, self.more),
            ("shapes", "realized"): (("a", "b", "c"), (("a", "b"), ("c", "b"))),
            ("copying", "in_turn"): (((0, ("reg", 1)), (1, ("reg", 0))), 3),
            ("flatcode", "copies_needed"): (one,), ("flatcode", "fewest_copies"): (p, 3),
        }

    def check(self, call, again, names, values):
        """The call returns the same by position and by keyword, in the order of the signature and the other way."""
        expected = seen(call(*values))
        pairs = list(zip(names, values))
        self.assertEqual(len(names), len(values))
        self.assertEqual(seen(again(**dict(pairs))), expected)
        self.assertEqual(seen(again(**dict(pairs[::-1]))), expected)

    def test_functions_and_classes(self):
        values = self.values()
        listed = {(file, name) for table in (FUNCTIONS, CLASSES) for file in table for name in table[file]}
        self.assertEqual(set(values), listed - {("joining", "Verdict")})
        for (file, name), passed in values.items():
            with self.subTest(file=file, name=name):
                call = getattr(module(file), name)
                names = [each[0] if isinstance(each, tuple) else each for each in parameters_of(call)]
                self.check(call, call, names, passed)

    def test_methods(self):
        inputs = (3, 250)
        passed = {
            ("machines", "Code", "__call__"): (inputs, 7), ("machines", "Code", "states"): (inputs, 7),
            ("flatcode", "Flat", "__call__"): (inputs, 7),
            ("keeping", "Kept", "put_in"): (3, 0, ("w", "add", "x", 1)), ("keeping", "Kept", "take_out"): (2, 0),
            ("keeping", "Kept", "resize"): (3,), ("keeping", "Kept", "rename"): ("x", "w"),
            ("keeping", "Kept", "reassign"): ("x", 3), ("keeping", "Kept", "swap"): ("x", 2),
        }
        self.assertEqual(set(METHODS) - set(passed), {("keeping", "Kept", "back"), ("keeping", "Kept", "again")})
        for (file, name, method), values in passed.items():
            with self.subTest(file=file, name=name, method=method):
                names = [each[0] if isinstance(each, tuple) else each for each in METHODS[file, name, method]][1:]
                if file == "keeping":
                    self.check_change(method, names, values)
                    continue
                made = getattr(module(file), name)(self.one)
                call = made if method == "__call__" else getattr(made, method)
                self.check(call, call, names, values)

    def check_change(self, method, names, values):
        """As check, for a method that changes what is kept."""
        kept = [module("keeping").Kept(self.program, 4) for _ in range(3)]
        pairs = list(zip(names, values))
        getattr(kept[0], method)(*values)
        getattr(kept[1], method)(**dict(pairs))
        getattr(kept[2], method)(**dict(pairs[::-1]))
        for each in kept[1:]:
            self.assertEqual(each.now.program.blocks, kept[0].now.program.blocks)
            self.assertEqual((each.now, each.changed), (kept[0].now, kept[0].changed))

    def test_defaults(self):
        run, trail = module("running").run, module("running").trail
        endless = module("texts").read_program("block\ngo 1\nblock\ngo 1")
        allocation = module("allocations").first_fit(endless, 0)
        code, flat = module("machines").Code(allocation), module("flatcode").Flat(allocation)
        self.assertEqual([run(endless, ()).spent, len(list(trail(endless, ())))], [200, 200])
        self.assertEqual([code(()).spent, len(list(code.states(()))), flat(()).spent], [200, 200, 2000])
        found = list(module("allocations").each_allocation(self.program, 3))
        self.assertEqual((len(found), found[0].rank), (36, 0))


if __name__ == "__main__":
    unittest.main()
