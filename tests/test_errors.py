"""The errors of the interface."""

import copy
import pickle
import unittest

from tests.kinds import some_of_each_kind
from turnindex import errors

VALUES = {
    "NoText": "text",
    "NoRow": "row",
    "NoNumber": "number",
    "NoCounts": "counts",
    "NoOrder": "order",
    "NoSampling": "samples",
    "NoMarks": "marks",
    "NoShape": "shape",
    "Unordered": "shape",
}


class ErrorsTest(unittest.TestCase):

    def test_turn_error_is_a_value_error(self):
        self.assertEqual(errors.TurnError.__bases__, (ValueError,))

    def test_all_are_direct_subclasses(self):
        for name in VALUES:
            self.assertEqual(getattr(errors, name).__bases__, (errors.TurnError,), name)

    def test_there_are_no_others(self):
        self.assertEqual({made.__name__ for made in errors.TurnError.__subclasses__()}, set(VALUES))

    def test_all_are_defined_in_their_file(self):
        for name in list(VALUES) + ["TurnError"]:
            self.assertEqual(getattr(errors, name).__module__, "turnindex.errors")

    def test_the_value_is_kept_as_passed(self):
        for name, attribute in VALUES.items():
            for value in some_of_each_kind() + ["", "banana", "$"]:
                error = getattr(errors, name)(value)
                self.assertIs(getattr(error, attribute), value)

    def test_nothing_else_is_kept(self):
        for name, attribute in VALUES.items():
            self.assertEqual(list(vars(getattr(errors, name)(5))), [attribute])

    def test_each_is_made_of_exactly_its_value(self):
        for name in VALUES:
            with self.assertRaises(TypeError):
                getattr(errors, name)()
            with self.assertRaises(TypeError):
                getattr(errors, name)("a", "b")

    def test_each_can_be_raised_and_caught(self):
        for name, attribute in VALUES.items():
            for caught_as in (getattr(errors, name), errors.TurnError, ValueError):
                value = ["a"]
                with self.assertRaises(caught_as) as caught:
                    raise getattr(errors, name)(value)
                self.assertIs(getattr(caught.exception, attribute), value)

    def test_the_wording_never_depends_on_the_value(self):
        for name in VALUES:
            wordings = {str(getattr(errors, name)(value)) for value in some_of_each_kind()}
            self.assertEqual(len(wordings), 1)

    def test_copies_keep_the_value(self):
        for name, attribute in VALUES.items():
            error = getattr(errors, name)(("a", 1))
            for again in (copy.copy(error), pickle.loads(pickle.dumps(error))):
                self.assertIs(again.__class__, error.__class__)
                self.assertEqual(getattr(again, attribute), ("a", 1))


if __name__ == "__main__":
    unittest.main()
