"""What holds of each function and method of the interface: nothing passed changes, and what is returned is new."""

import copy
import importlib
import unittest
from itertools import combinations

from tests.test_interface import CLASSES, FUNCTIONS

COUNTS = {"c": 2, "a": 3, "b": 0}
SHAPE = (("a", "b"), ("n", "z"))
# For each name in the interface some calls that raise no error.
CALLS = {
    "row_of": [("banana",), ("",)],
    "row_of_list": [(("ab", "", "b"),), ((),)],
    "row_of_ring": [("abab",)],
    "row_of_all": [(("ab",), ("ba", "b"))],
    "step_back": [("annb$aa",)],
    "read_back": [("annb$aa",), ("ba$$ab",)],
    "is_of_text": [("annb$aa",)],
    "is_of_list": [("annb$aa",)],
    "is_of_ring": [("aabb",)],
    "texts_number": [(COUNTS,)],
    "lists_number": [(COUNTS, 3)],
    "rows_number": [(COUNTS, 3)],
    "rings_number": [(COUNTS,)],
    "turns_number": [(COUNTS,)],
    "ends_of": [("banana",), ("",)],
    "rings_by_end": [("banana",)],
    "falling": [("banana",)],
    "falling_row": [("banana",)],
    "falling_text": [("aabb",)],
    "order_of": [("banana",)],
    "drops": [((5, 3, 1, 0, 4, 2),)],
    "least_text": [((5, 3, 1, 0, 4, 2),)],
    "orders_number": [((5, 3, 1, 0, 4, 2), 4)],
    "has_order": [("banana", (5, 3, 1, 0, 4, 2))],
    "most_steps": [(6, (0, 3))],
    "least_samples": [(6, 2)],
    "samplings_number": [(6, 2)],
    "first_sampling": [(6, 2)],
    "runs": [("annb$aa",)],
    "ring_runs": [("aabba",)],
    "reaches": [("aabba",)],
    "commons": [("banana",)],
    "parts_number": [("banana",)],
    "parts_by_length": [("banana",)],
    "repeats": [("banana",), ("",)],
    "longest_repeat": [("banana",)],
    "shortest_alone": [("banana",)],
    "statistics": [("banana", "xanab")],
    "least_absent": [("banana", "abn")],
    "text_of_absent": [(["ba", "aaa", "bb", "ba"], "ab"), (("ba",), "ab")],
    "parts_of": [("banana", 2)],
    "alike": [("aaba", "abaa", 2)],
    "parting": [("aaba", "abaa")],
    "alike_number": [("aaba", 2)],
    "alone": [("aaba",)],
    "another": [("aaba", 2)],
    "exchange": [("aaba", 2)],
    "ways": [("aaba", "abaa", 2), ("a", "a", 1)],
    "row_is_by": [("aabab", "ba")],
    "against": [("aabb", "ba")],
    "is_balanced": [("aabab",)],
    "unbalanced": [("aabb",)],
    "balanced_ring": [(3, 2)],
    "fall_rings": [(COUNTS,)],
    "least_runs": [(3, 2)],
    "has_all_words": [("aabb", "ab", 2)],
    "all_words_number": [(2, 3)],
    "merge": [("b$a", "a$")],
    "agreeing": [(("ab",), ("a",))],
    "part": [("ba$$a", (0, 1, 1, 0, 0))],
    "put_ahead": [("b$a", "b")],
    "take_ahead": [("bba$",)],
    "turned": [("ab", "ba"), ("", "")],
    "least_moves": [("ab", "ba")],
    "stays": [("ab", "ba")],
    "cost": [(("a", ("b", "c")), COUNTS)],
    "least_shape": [(COUNTS,)],
    "least_ordered": [(COUNTS,)],
}
LOCATE = [("banana", (0, 3), 1)]
OBJECTS = {
    "Index": [(("banana", "ab"),)],
    "RunIndex": [("banana",)],
    "Tree": [("banana", SHAPE)],
}
METHODS = {
    "Index": {
        "rank": [("a", 4)], "begin": [("n",)], "search": [("ana",), ("",)], "count": [("an",)],
        "texts_with": [("a",), ("q",)], "suffix_at": [(2,)], "extract": [(0, 2, 4)],
    },
    "RunIndex": {"size": [()], "ahead": [(3,)], "kept": [()], "locate": [("an",), ("q",)], "touched": [("an",)]},
    "Tree": {
        "access": [(2,)], "rank": [("n", 5)], "select": [("a", 3)], "least": [(0, 4, 3)],
        "between": [(1, 6, "b", "n")],
    },
}


def all_calls():
    """Each function and method of the interface with arguments for which it raises no error."""
    for module, functions in FUNCTIONS.items():
        for name in functions:
            for arguments in LOCATE if name == "locate" else CALLS[name]:
                yield getattr(importlib.import_module(module), name), arguments
    for (module, name), methods in CLASSES.items():
        made = getattr(importlib.import_module(module), name)
        for arguments in OBJECTS[name]:
            for method in methods:
                if method != "__init__":
                    for others in METHODS[name][method]:
                        yield getattr(made(*arguments), method), others


def changeable(value):
    """All lists and dicts within a value."""
    inner = list(value.values()) if isinstance(value, dict) else value
    found = [value] if isinstance(value, (list, dict)) else []
    if isinstance(inner, (list, tuple)):
        for each in inner:
            found += changeable(each)
    return found


class WholeTest(unittest.TestCase):

    def test_nothing_that_is_passed_is_changed(self):
        for function, arguments in all_calls():
            kept = copy.deepcopy(arguments)
            function(*arguments)
            self.assertEqual(arguments, kept, function)
            for one, other in zip(arguments, kept):
                if isinstance(one, dict):
                    self.assertEqual(list(one.items()), list(other.items()))

    def test_every_list_and_dict_is_new(self):
        for function, arguments in all_calls():
            first, again = function(*arguments), function(*arguments)
            self.assertEqual(first, again)
            taken = {id(each) for each in changeable(again) + changeable(arguments)}
            for each in changeable(first):
                self.assertNotIn(id(each), taken, function)
            for each in changeable(first):
                each.clear()
            self.assertEqual(function(*arguments), again, function)

    def test_no_list_or_dict_is_in_another(self):
        # what is promised as a list holds texts, integers and tuples, and no dict is returned
        for function, arguments in all_calls():
            told = function(*arguments)
            self.assertLessEqual(len(changeable(told)), 1, function)
            self.assertNotIsInstance(told, dict)

    def test_arguments_are_passed_by_position(self):
        for function, arguments in all_calls():
            with self.assertRaises(TypeError):
                function(*arguments, None)
            if arguments:
                with self.assertRaises(TypeError):
                    function(*arguments[:-1])

    def test_objects_are_equal_just_if_made_alike(self):
        objects = []
        for (module, name) in CLASSES:
            made = getattr(importlib.import_module(module), name)
            for arguments in OBJECTS[name]:
                one, other = made(*arguments), made(*copy.deepcopy(arguments))
                self.assertIs(one == other, True)
                self.assertIs(one != other, False)
                objects.append(one)
        for one, other in combinations(objects, 2):
            self.assertIs(one == other, False)
            self.assertIs(one != other, True)

    def test_objects_are_equal_after_they_were_asked(self):
        for (module, name), methods in CLASSES.items():
            made = getattr(importlib.import_module(module), name)
            for arguments in OBJECTS[name]:
                asked, new = made(*arguments), made(*arguments)
                for method, calls in METHODS[name].items():
                    for others in calls:
                        getattr(asked, method)(*others)
                self.assertEqual(asked, new)
                self.assertEqual(repr(sorted(vars(asked).items())), repr(sorted(vars(new).items())))

    def test_somewhat_beyond_the_limits_no_error_is_raised(self):
        for module, name, arguments in (
            ("rows", "row_of", ("ab" * 155,)), ("rows", "row_of_list", (("a",) * 51,)),
            ("rows", "row_of_ring", ("a" * 301,)), ("rows", "step_back", ("a" * 361,)),
            ("numbers", "lists_number", ({"a": 1}, 1001)), ("ends", "ends_of", ("a" * 301,)),
            ("falling", "falling", ("a" * 301,)), ("orders", "order_of", ("a" * 301,)), ("runs", "runs", ("a" * 361,)),
            ("neighbours", "commons", ("a" * 301,)), ("absent", "least_absent", ("ab" * 31, "ab")),
            ("absent", "text_of_absent", (["a" * 301], "a")), ("alike", "alike_number", ("ab" * 31, 2)),
            ("alike", "another", ("ab" * 31, 1)), ("balanced", "is_balanced", ("ab" * 151,)),
            ("balanced", "has_all_words", ("a", "a", 301)), ("balanced", "all_words_number", (2, 9)),
            ("merging", "merge", ("a" * 101 + "$", "a" * 101 + "$")), ("edits", "put_ahead", ("a" * 101 + "$", "a")),
            ("edits", "stays", ("a" * 101, "b" * 101)),
        ):
            getattr(importlib.import_module("turnindex." + module), name)(*arguments)


if __name__ == "__main__":
    unittest.main()
