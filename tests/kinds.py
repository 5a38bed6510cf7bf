"""Objects of many kinds, and how the errors for them are tested."""

import unittest

from turnindex import errors
from turnindex.indexes import Index
from turnindex.runs import RunIndex
from turnindex.trees import Tree


def nothing_much():
    return None


def some_of_each_kind():
    """One or more objects of each kind that comes to mind; none is a text, a row or a number alone."""
    generator = (k for k in range(3))
    objects = [
        None, True, False, ..., NotImplemented,
        0, 1, -1, 10 ** 30, -(10 ** 5000), 0.0, 1.5, float("nan"), float("inf"), 2j,
        b"", b"ab", bytearray(b"ab"), memoryview(b"ab"),
        [], ["a"], ["a", "b"], (), ("a",), (("a",),), (1,), {}, {"a": 1}, {1: 2}, {"a", "b"}, set(),
        frozenset(["a"]), range(0), range(3), slice(0, 2), iter("ab"), generator, enumerate("ab"),
        zip("ab", "ab"), map(len, "ab"), filter(None, "ab"), reversed([1]), {"a": 1}.keys(),
        {"a": 1}.values(), {"a": 1}.items(), object(), type, int, str, tuple, dict, len, "ab".upper,
        nothing_much, lambda text: text, property(nothing_much), staticmethod(nothing_much),
        ValueError("a"), KeyError("a"), StopIteration(), unittest, nothing_much.__code__,
        errors.TurnError, errors.NoText, errors.NoText("a"), errors.NoRow("$"), errors.NoNumber(1),
        errors.NoCounts({"a": 1}), errors.NoOrder((0,)), errors.NoSampling((0,)), errors.NoMarks((0,)),
        errors.NoShape("a"), errors.Unordered(("b", "a")),
        Index, RunIndex, Index(("a",)), RunIndex("a"), Index(("a",)).search, RunIndex.size,
        Tree, Tree("a", ("a", "b")), Tree("", "a").access,
    ]
    objects.append(["a" * 10, objects[:5]])
    return objects


# Strings that hold another sign than the letters a to z and the end.
WRONG_STRINGS = (
    "A", "Banana", "bananA", "\u00e4", "\u0430", "\uff41", "\ud800", "a b", " ", "a\n", "\n", "\x00", "`", "{",
    "#", "%", "1", "a1", "_", "a\u0301", "\U0001f34c",
)


class KindsCase(unittest.TestCase):
    """A test case that can look at the value that an error keeps."""

    def assert_raises(self, error, value, function, *arguments):
        """Test that just this error is raised, with this very value."""
        with self.assertRaises(errors.TurnError) as caught:
            function(*arguments)
        self.assertIs(caught.exception.__class__, error)
        self.assertEqual(len(vars(caught.exception)), 1)
        for kept in vars(caught.exception).values():
            self.assertIs(kept, value)
