"""The interface: each function in its file, with its names of arguments."""

import importlib
import inspect
import os
import unittest

from tests.interface import FILES, functions_of


class Interface(unittest.TestCase):
    def test_each_function_is_defined_in_its_file_with_its_arguments(self):
        for name in FILES:
            module = importlib.import_module("nearercamps." + name)
            for function_name, names in functions_of(name):
                with self.subTest(file=name, function=function_name):
                    function = getattr(module, function_name)
                    self.assertEqual(list(inspect.signature(function).parameters), names)
                    self.assertEqual(os.path.basename(function.__code__.co_filename), name + ".py")
                    self.assertEqual(function.__name__, function_name)

    def test_arguments_have_no_defaults_and_may_be_named_or_not(self):
        for name in FILES:
            module = importlib.import_module("nearercamps." + name)
            for function_name, _ in functions_of(name):
                for own in inspect.signature(getattr(module, function_name)).parameters.values():
                    self.assertIs(own.default, inspect.Parameter.empty)
                    self.assertEqual(own.kind, inspect.Parameter.POSITIONAL_OR_KEYWORD)


if __name__ == "__main__":
    unittest.main()
