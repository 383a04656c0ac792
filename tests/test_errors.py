"""[6], [51]: the errors."""

import copy
import pickle
import unittest

from registerways import errors

PARAMETERS = {
    "AssignedTwice": ("name",),
    "NoBlock": ("number",),
    "WrongCount": ("block",),
    "NotReached": ("block",),
    "NotAssigned": ("name",),
    "BadText": ("line",),
    "NoPoint": ("point",),
    "NoVariable": ("name",),
    "BadRegister": ("name",),
    "Conflict": ("first", "second"),
    "NoNumber": ("number",),
    "TooFew": ("size",),
    "NoRegister": ("reg",),
    "Taken": ("other",),
    "NotAkin": (),
    "NoSpare": ("size",),
    "TooMany": ("number",),
    "Chordless": ("ring",),
    "NoPlace": ("block", "at"),
    "NothingBack": (),
    "NothingAgain": (),
}

VALUES = (
    0, 1, -1, 65535, 65536, 10 ** 69, -(10 ** 5000), "a", "abcdef", "", "block", "two words",
    (), (0, 1), ("a", "b", "c", "d"), (1, ("a", None)), None,
)


class ErrorTest(unittest.TestCase):
    def test_there_are_twenty_one(self):
        found = [
            name for name, value in vars(errors).items()
            if isinstance(value, type) and issubclass(value, ValueError)
        ]
        self.assertEqual(sorted(found), sorted([*PARAMETERS, "RegisterError"]))
        self.assertEqual(len(PARAMETERS), 21)

    def test_register_error_is_a_direct_subclass_of_value_error(self):
        self.assertEqual(errors.RegisterError.__bases__, (ValueError,))

    def test_each_is_a_direct_subclass_of_register_error(self):
        for name in PARAMETERS:
            with self.subTest(name=name):
                self.assertEqual(getattr(errors, name).__bases__, (errors.RegisterError,))

    def test_attributes_are_what_was_passed(self):
        for name, parameters in PARAMETERS.items():
            for value in VALUES:
                # The second argument is another one, so that the two cannot be mixed up.
                passed = (value, ("second", value))[:len(parameters)]
                with self.subTest(name=name, passed=str(passed)[:50] if value != VALUES[6] else "a long number"):
                    self.check(getattr(errors, name)(*passed), parameters, passed)
                    by_keyword = dict(zip(parameters, passed))
                    self.check(getattr(errors, name)(**by_keyword), parameters, passed)

    def check(self, error, parameters, passed):
        self.assertEqual(tuple(getattr(error, parameter) for parameter in parameters), passed)
        for parameter, value in zip(parameters, passed):
            self.assertIs(type(getattr(error, parameter)), type(value))

    def test_raised_and_caught(self):
        for name, parameters in PARAMETERS.items():
            passed = (3, "x")[:len(parameters)]
            for caught in (getattr(errors, name), errors.RegisterError, ValueError):
                with self.subTest(name=name, caught=caught.__name__):
                    with self.assertRaises(caught) as told:
                        raise getattr(errors, name)(*passed)
                    self.check(told.exception, parameters, passed)

    def test_other_numbers_of_arguments(self):
        for name, parameters in PARAMETERS.items():
            for many in range(4):
                if many != len(parameters):
                    with self.subTest(name=name, many=many):
                        self.assertRaises(TypeError, getattr(errors, name), *range(many))

    def test_lists_are_kept_as_tuples(self):
        for name, parameters in PARAMETERS.items():
            if not parameters:
                continue
            with self.subTest(name=name):
                passed = [["a", ["b"], (1, ["c"])] for _ in parameters]
                error = getattr(errors, name)(*passed)
                for value in passed:
                    value[1].append("d")
                    value.append("e")
                for parameter in parameters:
                    self.assertEqual(getattr(error, parameter), ("a", ("b",), (1, ("c",))))

    def test_shown_and_copied(self):
        error = errors.Conflict("a", "b")
        self.assertIn("a", str(error))
        self.assertIn("b", str(error))
        for made in (copy.copy(error), pickle.loads(pickle.dumps(error))):
            self.assertEqual((made.first, made.second), ("a", "b"))


if __name__ == "__main__":
    unittest.main()
