"""The interface: names, arguments, and the file in which each one is defined."""

import importlib
import inspect
import unittest

INTERFACE = {
    "toldmoment.schemas": {
        "value_text": ["value"],
        "value_in": ["text"],
        "change_text": ["change"],
        "change_in": ["text"],
        "step_text": ["step"],
        "step_in": ["text"],
        "entry_text": ["entry"],
        "entry_in": ["text"],
        "stepped": ["schema", "step"],
    },
    "toldmoment.states": {
        "empty_state": ["schema"],
        "fits": ["schema", "value"],
        "dealt": ["schema", "state", "changes"],
        "keys_of": ["state"],
        "row_in": ["state", "table", "key"],
        "key_rows": ["state", "key"],
        "with_key_rows": ["schema", "state", "key", "rows"],
    },
}


class Interface(unittest.TestCase):

    def test_each_function_stands_in_its_file_with_its_arguments(self):
        for place, functions in INTERFACE.items():
            module = importlib.import_module(place)
            for name, wanted in functions.items():
                with self.subTest(name):
                    function = getattr(module, name)
                    self.assertTrue(inspect.isfunction(function))
                    self.assertEqual((function.__module__, function.__name__), (place, name))
                    parameters = inspect.signature(function).parameters.values()
                    self.assertEqual([one.name for one in parameters], wanted)
                    for one in parameters:
                        self.assertIs(one.kind, inspect.Parameter.POSITIONAL_OR_KEYWORD)
                        self.assertIs(one.default, inspect.Parameter.empty)
