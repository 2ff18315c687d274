"""Every name of the interface stands in its own file, with its parameters; the methods are tested with workshops."""

import importlib
import inspect
import unittest
from tests.helpers import INTERFACE


class InterfaceTest(unittest.TestCase):

    def test_functions_are_defined_in_their_files(self):
        for module, table in INTERFACE.items():
            found = importlib.import_module("rulertrees." + module)
            for name in table:
                self.assertEqual(getattr(found, name).__module__, "rulertrees." + module, name)

    def test_parameters(self):
        for module, table in INTERFACE.items():
            found = importlib.import_module("rulertrees." + module)
            for name, parameters in table.items():
                listed = inspect.signature(getattr(found, name)).parameters
                self.assertEqual(tuple(listed), parameters, name)
                for parameter in listed.values():
                    self.assertEqual(parameter.kind, parameter.POSITIONAL_OR_KEYWORD, name)
                    self.assertIs(parameter.default, parameter.empty, name)


if __name__ == "__main__":
    unittest.main()
