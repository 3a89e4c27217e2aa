"""The error classes: bases, parameters, attributes."""

import unittest

from leastlap import errors

PARAMETERS = {"NoProgram": ("part",), "Outside": ("place", "i"), "Twice": ("write",), "Unwritten": ("use",),
              "NoSchedule": (), "Late": ("use",), "NoPlacement": (), "NoMemory": ("answer",), "InvalidText": (),
              "InvalidCommand": ()}


class ErrorsTest(unittest.TestCase):
    def test_base(self):
        self.assertEqual(errors.LapError.__bases__, (Exception,))

    def test_each_is_a_direct_subclass_of_the_base_alone(self):
        for name in PARAMETERS:
            self.assertEqual(getattr(errors, name).__bases__, (errors.LapError,), name)

    def test_there_are_no_others(self):
        found = {name for name, thing in vars(errors).items() if isinstance(thing, type)}
        self.assertEqual(found, set(PARAMETERS) | {"LapError"})

    def test_parameters_are_attributes(self):
        for name, parameters in PARAMETERS.items():
            made = getattr(errors, name)
            values = tuple(range(7, 7 + len(parameters)))
            for error in (made(*values), made(**dict(zip(parameters, values)))):
                self.assertEqual(tuple(getattr(error, parameter) for parameter in parameters), values, name)
                with self.assertRaises(errors.LapError):
                    raise error

    def test_number_of_parameters(self):
        for name, parameters in PARAMETERS.items():
            with self.assertRaises(TypeError, msg=name):
                getattr(errors, name)(*range(len(parameters) + 1), k=1)


if __name__ == "__main__":
    unittest.main()
