"""[52]: each name stands under its module, with its parameters, their defaults, and its own methods."""

import importlib
import inspect
import unittest

FUNCTIONS = {
    "flow": {
        "dominates": ("program", "upper", "lower"),
        "below": ("program",),
        "avoiding": ("program", "upper", "lower"),
    },
    "texts": {
        "program_text": ("program",),
        "read_program": ("text",),
    },
    "running": {
        "run": ("program", "inputs", ("fuel", 200)),
        "trail": ("program", "inputs", ("fuel", 200)),
    },
    "liveness": {
        "points": ("program",),
        "live": ("program", "point"),
        "held": ("program", "point"),
        "use_path": ("program", "point", "name"),
    },
    "conflicts": {
        "conflict": ("program", "first", "second"),
        "earlier": ("program", "name"),
        "conflicts": ("program",),
        "fewest": ("program",),
    },
    "allocations": {
        "how_many": ("program", "size"),
        "allocation_at": ("program", "size", "number"),
        "first_fit": ("program", "size"),
        "each_allocation": ("program", "size", ("start", 0)),
    },
}

CLASSES = {
    "programs": {"Program": (("blocks",), ("__len__", "__contains__"), ("order",))},
    "running": {"Result": (("told", "given", "spent"), (), ())},
    "allocations": {
        "Allocation": (
            ("program", "size", "registers"),
            ("__getitem__", "__eq__", "__lt__", "__le__", "__gt__", "__ge__"),
            ("rank",),
        ),
    },
}


def module(name):
    return importlib.import_module(f"registerways.{name}")


def parameters_of(function):
    """Its parameters: the name of each, or the name and the default value."""
    return tuple(
        each.name if each.default is inspect.Parameter.empty else (each.name, each.default)
        for each in inspect.signature(function).parameters.values()
    )


class InterfaceTest(unittest.TestCase):
    def test_functions(self):
        for file, functions in FUNCTIONS.items():
            for name, parameters in functions.items():
                with self.subTest(file=file, name=name):
                    function = getattr(module(file), name)
                    self.assertTrue(inspect.isfunction(function))
                    self.assertEqual(function.__module__, f"registerways.{file}")
                    self.assertEqual(parameters_of(function), parameters)
                    for parameter in inspect.signature(function).parameters.values():
                        self.assertEqual(parameter.kind, inspect.Parameter.POSITIONAL_OR_KEYWORD)

    def test_classes(self):
        for file, classes in CLASSES.items():
            for name, (parameters, methods, properties) in classes.items():
                with self.subTest(file=file, name=name):
                    found = getattr(module(file), name)
                    self.assertTrue(inspect.isclass(found))
                    self.assertEqual(found.__module__, f"registerways.{file}")
                    self.assertEqual(parameters_of(found), parameters)
                    for method in methods:
                        self.assertTrue(inspect.isfunction(vars(found)[method]))
                    for each in properties:
                        self.assertIsInstance(vars(found)[each], property)

    def test_attributes_are_set_when_an_object_is_created(self):
        program = module("texts").read_program("block a\ngive a")
        for made, names in (
            (program, ("blocks",)),
            (module("running").Result((), None, 0), ("told", "given", "spent")),
            (module("running").run(program, (1,)), ("told", "given", "spent")),
            (module("allocations").Allocation(program, 1, (0,)), ("program", "size", "registers")),
        ):
            for name in names:
                with self.subTest(made=made, name=name):
                    self.assertIn(name, vars(made))

    def test_errors_stand_in_their_module(self):
        for name, value in vars(module("errors")).items():
            if inspect.isclass(value):
                with self.subTest(name=name):
                    self.assertEqual(value.__module__, "registerways.errors")


if __name__ == "__main__":
    unittest.main()
