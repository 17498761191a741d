"""[19]: the names of the interface, in their files, with their parameters."""

import importlib
import inspect
import unittest

from interface import FUNCTIONS


class Interface(unittest.TestCase):
    def test_each_is_defined_in_its_file(self):
        for file, names in FUNCTIONS.items():
            module = importlib.import_module(f"orderrings.{file}")
            for name, parameters in names.items():
                with self.subTest(name=name):
                    function = getattr(module, name)
                    self.assertTrue(inspect.isfunction(function))
                    self.assertEqual(function.__module__, f"orderrings.{file}")
                    self.assertEqual(tuple(inspect.signature(function).parameters), parameters)
                    self.assertTrue(function.__doc__)


if __name__ == "__main__":
    unittest.main()
