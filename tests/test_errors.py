"""The errors of the package: names, base classes and attributes."""

import inspect
import unittest
from rulertrees import errors

PARAMETERS = {
    "AllZero": None, "BadPlace": "thing", "BadChange": "thing", "BadRelation": "thing", "BadPlaces": "thing",
    "BadDial": "dial", "BadChanges": "thing", "BadOrder": "thing", "TooManyDials": None, "BadSplit": "thing",
    "BadCube": "thing", "BadForm": "thing", "OtherForms": None, "BadPoint": "thing", "BadMap": "thing",
    "BadRuler": "thing", "BadChart": "thing", "BadText": "at", "ByZero": "at", "AlwaysTrue": None,
    "NeverTrue": None, "TooHigh": "name", "TooManyNames": None, "BadNames": "thing", "FarPart": "dial",
    "BadShape": "thing", "BadTree": "thing", "OtherShapes": None, "Loose": None, "BadHanging": "thing",
    "BadEnd": "thing", "BadRing": "thing", "BadSeam": "thing", "BadSheet": "at", "BadQuestion": "thing",
    "BadGrid": "thing", "BadOrders": "thing", "OtherSizes": None, "NoName": "name", "DoesNotHold": "places",
    "DoesNotFit": "certificate", "NotTheLast": "name", "NothingToUndo": None, "NothingToRedo": None,
}
VALUES = (0, -7, 10 ** 40, True, False, None, "", "far", (), (1, (2, "x")), [], [1, [2]], {}, {"a": 1, 2: [3]})


def raised(make):
    raise make()


class ErrorsTest(unittest.TestCase):

    def test_base_classes(self):
        self.assertEqual(errors.RulerError.__bases__, (Exception,))
        for name in PARAMETERS:
            self.assertEqual(getattr(errors, name).__bases__, (errors.RulerError,), name)

    def test_just_the_listed_classes(self):
        defined = {name for name, thing in vars(errors).items() if inspect.isclass(thing)}
        self.assertEqual(defined, set(PARAMETERS) | {"RulerError"})
        for name in defined:
            self.assertEqual(getattr(errors, name).__module__, "rulertrees.errors")

    def test_attributes_by_position_and_by_name(self):
        for name, parameter in PARAMETERS.items():
            if parameter is None:
                continue
            error_class = getattr(errors, name)
            for value in VALUES:
                for error in (error_class(value), error_class(**{parameter: value})):
                    self.assertIs(getattr(error, parameter), value)
                    self.assertEqual(vars(error), {parameter: value})
            with self.assertRaises(TypeError):
                error_class()

    def test_errors_without_parameters(self):
        for name, parameter in PARAMETERS.items():
            if parameter is None:
                self.assertEqual(vars(getattr(errors, name)()), {})

    def test_caught_by_name_and_as_ruler_error(self):
        for name, parameter in PARAMETERS.items():
            error_class = getattr(errors, name)
            arguments = () if parameter is None else ((1, 2),)
            for caught in (error_class, errors.RulerError, Exception):
                with self.assertRaises(caught):
                    raised(lambda: error_class(*arguments))

    def test_no_other_error_of_the_language(self):
        for name in PARAMETERS:
            chain = [base.__name__ for base in getattr(errors, name).__mro__]
            self.assertEqual(chain, [name, "RulerError", "Exception", "BaseException", "object"])


if __name__ == "__main__":
    unittest.main()
