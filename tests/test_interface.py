"""The names and arguments of the interface, as they stand there."""

import importlib
import inspect
import unittest

INTERFACE = {
    "rows": {"pairs_out": ["row"], "falls": ["row"], "fall_sum": ["row"], "standing": ["row"]},
    "moves": {"swapped": ["row", "places"], "steps": ["row"]},
    "full": {
        "inverse": ["row"], "code_of": ["row"], "row_of_code": ["code"], "rank_of": ["row"], "row_at": ["many", "rank"],
    },
    "turning": {"turned": ["row"], "turned_back": ["row"]},
    "counts": {"spread": ["amounts"]},
    "notes": {"shown": ["row"], "read": ["text"]},
}


class Interface(unittest.TestCase):
    def test_each_function_has_its_arguments(self):
        for module, functions in INTERFACE.items():
            for name, arguments in functions.items():
                with self.subTest(module=module, name=name):
                    function = getattr(importlib.import_module("shelfway." + module), name)
                    parameters = inspect.signature(function).parameters
                    self.assertEqual(list(parameters), arguments)
                    for parameter in parameters.values():
                        self.assertIs(parameter.default, inspect.Parameter.empty)
