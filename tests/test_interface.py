"""The names of the interface: each is defined in its file, with its arguments."""

import importlib
import inspect
import unittest

FUNCTIONS = {
    "turnindex.rows": {
        "row_of": ["text"],
        "row_of_list": ["texts"],
        "row_of_ring": ["word"],
        "row_of_all": ["texts", "rings"],
        "step_back": ["row"],
        "read_back": ["row"],
        "is_of_text": ["row"],
        "is_of_list": ["row"],
        "is_of_ring": ["row"],
    },
    "turnindex.numbers": {
        "texts_number": ["counts"],
        "lists_number": ["counts", "m"],
        "rows_number": ["counts", "m"],
        "rings_number": ["counts"],
        "turns_number": ["counts"],
    },
    "turnindex.ends": {
        "ends_of": ["word"],
        "rings_by_end": ["word"],
    },
    "turnindex.falling": {
        "falling": ["text"],
        "falling_row": ["text"],
        "falling_text": ["row"],
    },
    "turnindex.orders": {
        "order_of": ["text"],
        "drops": ["order"],
        "least_text": ["order"],
        "orders_number": ["order", "letters"],
        "has_order": ["text", "order"],
    },
    "turnindex.samples": {
        "locate": ["text", "samples", "place"],
        "most_steps": ["length", "samples"],
        "least_samples": ["length", "steps"],
        "samplings_number": ["length", "steps"],
        "first_sampling": ["length", "steps"],
    },
    "turnindex.runs": {
        "runs": ["row"],
        "ring_runs": ["word"],
        "reaches": ["word"],
    },
    "turnindex.neighbours": {
        "commons": ["text"],
        "parts_number": ["text"],
        "parts_by_length": ["text"],
        "repeats": ["text"],
        "longest_repeat": ["text"],
        "shortest_alone": ["text"],
        "statistics": ["text", "other"],
    },
    "turnindex.absent": {
        "least_absent": ["text", "letters"],
        "text_of_absent": ["words", "letters"],
    },
    "turnindex.alike": {
        "parts_of": ["text", "k"],
        "alike": ["one", "other", "k"],
        "parting": ["one", "other"],
        "alike_number": ["text", "k"],
        "alone": ["text"],
        "another": ["text", "k"],
        "exchange": ["text", "k"],
        "ways": ["one", "other", "k"],
    },
    "turnindex.balanced": {
        "row_is_by": ["word", "letters"],
        "against": ["word", "letters"],
        "is_balanced": ["word"],
        "unbalanced": ["word"],
        "balanced_ring": ["p", "q"],
        "fall_rings": ["counts"],
        "least_runs": ["p", "q"],
        "has_all_words": ["word", "letters", "k"],
        "all_words_number": ["s", "k"],
    },
    "turnindex.merging": {
        "merge": ["one", "other"],
        "agreeing": ["texts", "others"],
        "part": ["row", "marks"],
    },
    "turnindex.edits": {
        "put_ahead": ["row", "letter"],
        "take_ahead": ["row"],
        "turned": ["one", "other"],
        "least_moves": ["one", "other"],
        "stays": ["one", "other"],
    },
    "turnindex.shapes": {
        "cost": ["shape", "weights"],
        "least_shape": ["weights"],
        "least_ordered": ["weights"],
    },
}
CLASSES = {
    ("turnindex.indexes", "Index"): {
        "__init__": ["texts"],
        "rank": ["letter", "place"],
        "begin": ["letter"],
        "search": ["pattern"],
        "count": ["pattern"],
        "texts_with": ["pattern"],
        "suffix_at": ["place"],
        "extract": ["number", "begin", "end"],
    },
    ("turnindex.runs", "RunIndex"): {
        "__init__": ["text"],
        "size": [],
        "ahead": ["place"],
        "kept": [],
        "locate": ["pattern"],
        "touched": ["part"],
    },
    ("turnindex.trees", "Tree"): {
        "__init__": ["text", "shape"],
        "access": ["place"],
        "rank": ["letter", "place"],
        "select": ["letter", "k"],
        "least": ["begin", "end", "k"],
        "between": ["begin", "end", "low", "high"],
    },
}


class InterfaceTest(unittest.TestCase):

    def test_functions(self):
        for module, functions in FUNCTIONS.items():
            for name, arguments in functions.items():
                function = getattr(importlib.import_module(module), name)
                self.assertTrue(inspect.isfunction(function))
                self.assertEqual(function.__module__, module)
                self.assertEqual(list(inspect.signature(function).parameters), arguments)

    def test_classes(self):
        for (module, name), methods in CLASSES.items():
            made = getattr(importlib.import_module(module), name)
            self.assertTrue(inspect.isclass(made))
            self.assertEqual(made.__module__, module)
            for method, arguments in methods.items():
                # each method stands in the class itself
                function = vars(made)[method]
                self.assertTrue(inspect.isfunction(function))
                self.assertEqual(list(inspect.signature(function).parameters), ["self"] + arguments)


if __name__ == "__main__":
    unittest.main()
