"""The interface: each function in its file, with its names of arguments."""

import importlib
import inspect
import os
import unittest

from nearercamps.board import Board
from tests.interface import BOARD, FILES, functions_of, told_in


class Interface(unittest.TestCase):
    def test_each_function_is_defined_in_its_file_with_its_arguments(self):
        for name in FILES:
            module = importlib.import_module("nearercamps." + name)
            for function_name, names in functions_of(name):
                with self.subTest(file=name, function=function_name):
                    function = getattr(module, function_name)
                    self.assertEqual(list(inspect.signature(function).parameters), names)
                    self.assertEqual(os.path.basename(function.__code__.co_filename), name + ".py")
                    self.assertEqual(function.__name__, function_name)

    def test_the_board_has_its_methods_itself(self):
        self.assertEqual(Board.__module__, "nearercamps.board")
        self.assertEqual(list(inspect.signature(Board).parameters), ["machine"])
        for method_name, names in told_in(BOARD):
            method = vars(Board)[method_name]
            self.assertEqual(list(inspect.signature(method).parameters), ["self"] + names)
            self.assertEqual(os.path.basename(method.__code__.co_filename), "board.py")

    def test_arguments_have_no_defaults_and_may_be_named_or_not(self):
        for name in FILES:
            module = importlib.import_module("nearercamps." + name)
            for function_name, _ in functions_of(name):
                for own in inspect.signature(getattr(module, function_name)).parameters.values():
                    self.assertIs(own.default, inspect.Parameter.empty)
                    self.assertEqual(own.kind, inspect.Parameter.POSITIONAL_OR_KEYWORD)


if __name__ == "__main__":
    unittest.main()
