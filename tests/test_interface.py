"""[52]: each name stands under its module, with its parameters and its own methods."""

import importlib
import inspect
import unittest

FUNCTIONS = {
    "flow": {
        "dominates": ("program", "upper", "lower"),
        "below": ("program",),
        "avoiding": ("program", "upper", "lower"),
    },
    "texts": {
        "program_text": ("program",),
        "read_program": ("text",),
    },
}

CLASSES = {
    "programs": {"Program": (("blocks",), ("__len__", "__contains__"), ("order",))},
}


def module(name):
    return importlib.import_module(f"registerways.{name}")


def parameters_of(function):
    return tuple(inspect.signature(function).parameters)


class InterfaceTest(unittest.TestCase):
    def test_functions(self):
        for file, functions in FUNCTIONS.items():
            for name, parameters in functions.items():
                with self.subTest(file=file, name=name):
                    function = getattr(module(file), name)
                    self.assertTrue(inspect.isfunction(function))
                    self.assertEqual(function.__module__, f"registerways.{file}")
                    self.assertEqual(parameters_of(function), parameters)
                    for parameter in inspect.signature(function).parameters.values():
                        self.assertEqual(parameter.kind, inspect.Parameter.POSITIONAL_OR_KEYWORD)

    def test_classes(self):
        for file, classes in CLASSES.items():
            for name, (parameters, methods, properties) in classes.items():
                with self.subTest(file=file, name=name):
                    found = getattr(module(file), name)
                    self.assertTrue(inspect.isclass(found))
                    self.assertEqual(found.__module__, f"registerways.{file}")
                    self.assertEqual(parameters_of(found), parameters)
                    for method in methods:
                        self.assertTrue(inspect.isfunction(vars(found)[method]))
                    for each in properties:
                        self.assertIsInstance(vars(found)[each], property)

    def test_errors_stand_in_their_module(self):
        for name, value in vars(module("errors")).items():
            if inspect.isclass(value):
                with self.subTest(name=name):
                    self.assertEqual(value.__module__, "registerways.errors")


if __name__ == "__main__":
    unittest.main()
