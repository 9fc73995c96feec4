import importlib
import inspect
import unittest

# The parameters of every function of the interface that has landed.
FUNCTIONS = {
    "chordturn.words": {
        "validate_word": ["word"],
        "is_word": ["value"],
        "size_of": ["word"],
        "partner": ["word", "point"],
        "partners": ["word"],
        "heights": ["word"],
        "touch_points": ["word"],
        "first_parts": ["word"],
        "from_parts": ["inner", "rest"],
        "reversed_word": ["word"],
    },
    "chordturn.tableaux": {
        "validate_tableau": ["tableau"],
        "is_tableau": ["value"],
        "tableau_of": ["word"],
        "word_of": ["tableau"],
        "slide_path": ["tableau"],
        "promote": ["tableau"],
        "demote": ["tableau"],
        "freed_cells": ["tableau"],
        "evacuate": ["tableau"],
    },
}


class Interface(unittest.TestCase):
    def test_each_function_is_defined_in_its_file_with_its_parameters(self):
        for module_name, functions in FUNCTIONS.items():
            module = importlib.import_module(module_name)
            for name, expected in functions.items():
                function = getattr(module, name)
                self.assertTrue(inspect.isfunction(function), name)
                self.assertEqual(function.__module__, module_name, name)
                parameters = inspect.signature(function).parameters.values()
                self.assertEqual([parameter.name for parameter in parameters], expected, name)
                for parameter in parameters:
                    self.assertEqual(parameter.kind, inspect.Parameter.POSITIONAL_OR_KEYWORD, name)
                    self.assertIs(parameter.default, inspect.Parameter.empty, name)


if __name__ == "__main__":
    unittest.main()
