"""The names of the interface: each is defined in its file, with its arguments."""

import importlib
import inspect
import unittest

FUNCTIONS = {
    "turnindex.rows": {
        "row_of": ["text"],
        "row_of_list": ["texts"],
        "row_of_ring": ["word"],
        "row_of_all": ["texts", "rings"],
        "step_back": ["row"],
        "read_back": ["row"],
        "is_of_text": ["row"],
        "is_of_list": ["row"],
        "is_of_ring": ["row"],
    },
    "turnindex.numbers": {
        "texts_number": ["counts"],
        "lists_number": ["counts", "m"],
        "rows_number": ["counts", "m"],
        "rings_number": ["counts"],
        "turns_number": ["counts"],
    },
    "turnindex.ends": {
        "ends_of": ["word"],
        "rings_by_end": ["word"],
    },
    "turnindex.falling": {
        "falling": ["text"],
        "falling_row": ["text"],
        "falling_text": ["row"],
    },
    "turnindex.orders": {
        "order_of": ["text"],
        "drops": ["order"],
        "least_text": ["order"],
        "orders_number": ["order", "letters"],
        "has_order": ["text", "order"],
    },
}


class InterfaceTest(unittest.TestCase):

    def test_functions(self):
        for module, functions in FUNCTIONS.items():
            for name, arguments in functions.items():
                function = getattr(importlib.import_module(module), name)
                self.assertTrue(inspect.isfunction(function))
                self.assertEqual(function.__module__, module)
                self.assertEqual(list(inspect.signature(function).parameters), arguments)


if __name__ == "__main__":
    unittest.main()
