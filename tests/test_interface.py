import importlib
import inspect
import unittest

from tests.support import assert_same

# The parameters of every function of the interface. A parameter that is
# keyword-only is written with its default.
FUNCTIONS = {
    "chordturn.words": {
        "validate_word": ["word"],
        "is_word": ["value"],
        "size_of": ["word"],
        "partner": ["word", "point"],
        "partners": ["word"],
        "heights": ["word"],
        "touch_points": ["word"],
        "first_parts": ["word"],
        "from_parts": ["inner", "rest"],
        "reversed_word": ["word"],
    },
    "chordturn.tableaux": {
        "validate_tableau": ["tableau"],
        "is_tableau": ["value"],
        "tableau_of": ["word"],
        "word_of": ["tableau"],
        "slide_path": ["tableau"],
        "promote": ["tableau"],
        "demote": ["tableau"],
        "freed_cells": ["tableau"],
        "evacuate": ["tableau"],
    },
    "chordturn.diagrams": {
        "validate_diagram": ["diagram"],
        "is_diagram": ["value"],
        "diagram_of": ["word"],
        "word_of_diagram": ["diagram"],
        "joined_to": ["diagram", "point"],
        "depths": ["diagram"],
        "short_chords": ["diagram"],
        "rotate": ["diagram", ("steps", 1)],
        "reflect": ["diagram"],
    },
    "chordturn.partitions": {
        "validate_partition": ["partition"],
        "is_partition": ["value"],
        "diagram_of_partition": ["partition"],
        "partition_of": ["diagram"],
        "complement": ["partition"],
        "block_of": ["partition", "item"],
        "is_finer": ["one", "other"],
        "meet_of": ["one", "other"],
        "join_of": ["one", "other"],
        "partition_rank": ["partition"],
    },
    "chordturn.numbering": {
        "word_count": ["size"],
        "completion_count": ["height", "length"],
        "word_at": ["size", "number"],
        "number_of": ["word"],
        "next_word": ["word"],
        "previous_word": ["word"],
    },
    "chordturn.matchings": {
        "validate_matching": ["matching"],
        "is_matching": ["value"],
        "crossings": ["matching"],
        "uncross": ["matching", "crossing"],
        "rotate_matching": ["matching", ("steps", 1)],
        "reflect_matching": ["matching"],
        "matching_count": ["size"],
    },
    "chordturn.expansions": {
        "validate_sum": ["terms"],
        "sum_of": ["matching", ("coefficient", 1)],
        "add_sums": ["terms", "others", ("factor", 1)],
        "rotate_sum": ["terms", ("steps", 1)],
        "replace": ["terms", "matching", "crossing"],
        "expand": ["terms"],
        "are_equivalent": ["terms", "others"],
        "certificate": ["terms"],
        "check_certificate": ["terms", "value"],
    },
    "chordturn.values": {
        "value_of": ["matching", "matrix"],
        "value_of_sum": ["terms", "matrix"],
        "rotate_matrix": ["matrix"],
        "witness": ["terms", "others"],
    },
    "chordturn.polynomials": {
        "validate_polynomial": ["polynomial"],
        "multiply": ["polynomial", "factor"],
        "divide": ["polynomial", "divisor"],
        "q_catalan": ["size"],
        "cyclotomic": ["order"],
    },
    "chordturn.fixed": {
        "order_of": ["size", "steps"],
        "is_fixed": ["diagram", "steps"],
        "fixed_count": ["size", "steps"],
        "fixed_by_remainder": ["size", "steps"],
        "fixed_diagrams": ["size", "steps"],
        "reflection_counts": ["size"],
        "orbit": ["diagram"],
        "full_orbit": ["diagram"],
        "orbit_counts": ["size"],
    },
    "chordturn.loops": {
        "loops": ["inner", "outer"],
        "loop_count": ["inner", "outer"],
        "loop_table": ["size"],
    },
    "chordturn.strands": {
        "identity": ["size"],
        "generator": ["size", "number"],
        "stack": ["upper", "lower"],
        "stack_all": ["size", "numbers"],
        "through_strands": ["diagram"],
        "factorization": ["diagram"],
        "closure_loops": ["diagram"],
    },
}

CONSTANTS = {
    "chordturn.words": {"MOST_SIZE": 30},
    "chordturn.numbering": {"MOST_COUNTED": 500},
    "chordturn.expansions": {"MOST_EXPANDED": 5},
    "chordturn.fixed": {"MOST_LISTED": 8},
    "chordturn.strands": {"MOST_FACTORED": 6},
}


class Interface(unittest.TestCase):
    def test_each_function_is_defined_in_its_file_with_its_parameters(self):
        for module_name, functions in FUNCTIONS.items():
            module = importlib.import_module(module_name)
            for name, expected in functions.items():
                function = getattr(module, name)
                self.assertTrue(inspect.isfunction(function), name)
                self.assertEqual(function.__module__, module_name, name)
                parameters = inspect.signature(function).parameters.values()
                assert_same(self, [self.shown(parameter) for parameter in parameters], expected)

    def shown(self, parameter):
        if parameter.kind == inspect.Parameter.KEYWORD_ONLY:
            return parameter.name, parameter.default
        self.assertEqual(parameter.kind, inspect.Parameter.POSITIONAL_OR_KEYWORD, parameter)
        self.assertIs(parameter.default, inspect.Parameter.empty, parameter)
        return parameter.name

    def test_each_constant(self):
        for module_name, constants in CONSTANTS.items():
            module = importlib.import_module(module_name)
            for name, value in constants.items():
                assert_same(self, getattr(module, name), value)


if __name__ == "__main__":
    unittest.main()
