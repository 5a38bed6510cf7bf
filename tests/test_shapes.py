"""Shapes and their costs, against all shapes of a few letters."""

import unittest
from itertools import product

from tests.kinds import KindsCase, WRONG_STRINGS, some_of_each_kind
from tests.plain import all_shapes, comb_shape, depths, numbers_below, shapes_in_order
from turnindex.errors import NoCounts, NoShape
from turnindex.shapes import cost, least_ordered, least_shape

ALPHABET = "abcdefghijklmnopqrstuvwxyz"


def plain_cost(shape, weights):
    return sum(weights[letter] * depth for letter, depth in depths(shape).items())


def plain_least_shape(weights):
    """Join the two lightest again and again, by the words of the document."""
    parts = [(letter, weight, letter) for letter, weight in weights.items()]
    while len(parts) > 1:
        one = min(parts, key=lambda part: (part[1], part[2]))
        parts.remove(one)
        other = min(parts, key=lambda part: (part[1], part[2]))
        parts.remove(other)
        shape = (one[0], other[0]) if one[2] < other[2] else (other[0], one[0])
        parts.insert(0, (shape, one[1] + other[1], min(one[2], other[2])))
    return parts[0][0]


def by_left_sides(shape):
    """A key by how many letters the left side has, and so on within."""
    if isinstance(shape, str):
        return ()
    return (len(depths(shape[0])), by_left_sides(shape[0]), by_left_sides(shape[1]))


def plain_least_ordered(weights):
    shapes = shapes_in_order("".join(sorted(weights)))
    return min(shapes, key=lambda shape: (plain_cost(shape, weights), by_left_sides(shape)))


def all_weights(letters, above):
    for numbers in product(range(above), repeat=len(letters)):
        yield dict(zip(letters, numbers))


def counting(many, greatest):
    """Weights of so many letters that make the shape as deep as can be, with a total of at most 300."""
    numbers = [1, 1]
    while len(numbers) < many:
        numbers.append(numbers[-1] + numbers[-2])
    return {letter: min(number, greatest) for letter, number in zip(ALPHABET, numbers)}


LARGE = (
    dict.fromkeys(ALPHABET, 1), dict.fromkeys(ALPHABET, 11), dict.fromkeys(ALPHABET, 0), counting(11, 300),
    {**dict.fromkeys(ALPHABET, 0), **counting(11, 300)}, {**dict.fromkeys(ALPHABET, 0), "m": 300},
    dict(zip(reversed(ALPHABET), numbers_below(0, 12, 1))), dict(zip(ALPHABET, range(23))),
)


class ExamplesTest(unittest.TestCase):

    def test_e17(self):
        w = {"a": 1, "b": 3, "c": 3, "d": 1}
        told = [least_shape(w), cost(least_shape(w), w), least_ordered(w)]
        self.assertEqual(told, [((("a", "d"), "b"), "c"), 15, (("a", "b"), ("c", "d"))])


class CostTest(unittest.TestCase):

    def test_some_shapes(self):
        for shape, weights, told in (
            ("a", {"a": 0}, 0), ("a", {"a": 300}, 0), (("a", "b"), {"a": 3, "b": 4}, 7),
            (("b", "a"), {"a": 3, "b": 4}, 7),
            (("a", ("b", "c")), {"a": 1, "b": 10, "c": 100}, 221), ((("z", "a"), "m"), {"m": 5, "z": 0, "a": 1}, 7),
        ):
            self.assertEqual(cost(shape, weights), told)
            self.assertIs(cost(shape, weights).__class__, int)

    def test_all_shapes_of_a_few_letters(self):
        for letters in ("a", "az", "abc", "kxyz"):
            for shape in all_shapes(letters):
                for weights in all_weights(letters, 3):
                    self.assertEqual(cost(shape, weights), plain_cost(shape, weights))

    def test_the_deepest_shape(self):
        shape = comb_shape(ALPHABET)
        self.assertEqual(cost(shape, dict.fromkeys(ALPHABET, 1)), sum(range(1, 26)) + 25)
        self.assertEqual(cost(shape, {**dict.fromkeys(ALPHABET, 0), "z": 300}), 300 * 25)


class LeastShapeTest(unittest.TestCase):

    def test_some_weights(self):
        for weights, shape in (
            ({"a": 5}, "a"), ({"z": 0}, "z"), ({"a": 1, "b": 1}, ("a", "b")), ({"b": 1, "a": 9}, ("a", "b")),
            ({"a": 9, "b": 1}, ("a", "b")), ({"a": 0, "b": 0, "c": 0}, (("a", "b"), "c")),
            ({"a": 2, "b": 1, "c": 1}, ("a", ("b", "c"))), ({"c": 1, "b": 1, "a": 1}, (("a", "b"), "c")),
            ({"a": 1, "b": 2, "c": 1, "d": 2}, ((("a", "c"), "b"), "d")), ({"a": 3, "b": 1, "c": 2}, ("a", ("b", "c"))),
        ):
            self.assertEqual(least_shape(weights), shape)

    def test_against_all_shapes(self):
        for letters, above in (("a", 5), ("ab", 5), ("abc", 5), ("axyz", 4), ("abcde", 3)):
            shapes = [depths(shape) for shape in all_shapes(letters)]
            for weights in all_weights(letters, above):
                shape = least_shape(weights)
                least = min(sum(weights[each] * depth[each] for each in letters) for depth in shapes)
                self.assertEqual(plain_cost(shape, weights), least)
                self.assertEqual(shape, plain_least_shape(weights))

    def test_the_order_of_the_letters_in_the_dict_does_not_count(self):
        for weights in all_weights("abcd", 3):
            turned_over = dict(reversed(list(weights.items())))
            self.assertEqual(least_shape(weights), least_shape(turned_over))
            self.assertEqual(least_ordered(weights), least_ordered(turned_over))

    def test_large_weights(self):
        for weights in LARGE:
            shape = least_shape(weights)
            self.assertEqual(shape, plain_least_shape(weights))
            self.assertEqual(sorted(depths(shape)), sorted(weights))
            self.assertEqual(cost(shape, weights), plain_cost(shape, weights))
            self.assertLessEqual(cost(shape, weights), cost(least_ordered(weights), weights))
        self.assertEqual(max(depths(least_shape(LARGE[2])).values()), 25)
        self.assertEqual(max(depths(least_shape(LARGE[3])).values()), 10)
        self.assertEqual(max(depths(least_shape(LARGE[4])).values()), 25)
        self.assertEqual(cost(least_shape(LARGE[0]), LARGE[0]), 6 * 4 + 20 * 5)


class LeastOrderedTest(unittest.TestCase):

    def test_some_weights(self):
        for weights, shape in (
            ({"a": 5}, "a"), ({"z": 0}, "z"), ({"b": 1, "a": 9}, ("a", "b")),
            ({"a": 1, "b": 1, "c": 1}, ("a", ("b", "c"))),
            ({"a": 0, "b": 0, "c": 0, "d": 0}, ("a", ("b", ("c", "d")))), ({"a": 1, "b": 1, "c": 9}, (("a", "b"), "c")),
            ({"a": 1, "b": 1, "c": 1, "d": 1}, (("a", "b"), ("c", "d"))), ({"a": 1, "b": 0, "c": 1}, ("a", ("b", "c"))),
        ):
            self.assertEqual(least_ordered(weights), shape)

    def test_against_all_shapes_in_order(self):
        for letters, above in (("a", 5), ("ab", 5), ("abc", 6), ("axyz", 5), ("abcde", 4), ("bcdefg", 3)):
            for weights in all_weights(letters, above):
                self.assertEqual(least_ordered(weights), plain_least_ordered(weights))

    def test_large_weights(self):
        for weights in LARGE:
            shape = least_ordered(weights)
            letters = list(depths(shape))
            self.assertEqual(letters, sorted(weights))
            least = cost(shape, weights)
            for middle in range(1, len(weights)):
                sides = [{each: weights[each] for each in part} for part in (letters[:middle], letters[middle:])]
                together = sum(cost(least_ordered(side), side) for side in sides) + sum(weights.values())
                self.assertLessEqual(least, together)
        self.assertEqual(least_ordered(LARGE[2]), comb_shape(ALPHABET))


class WrongArgumentsTest(KindsCase):

    def wrong_shapes(self):
        deep = "a"
        for _ in range(100):
            deep = (deep, "b")
        listed = "a"
        for _ in range(100):
            listed = [listed, "b"]
        shared = "a"
        for _ in range(100):
            shared = (shared, shared)
        empty = ()
        for _ in range(99):
            empty = (empty, empty)
        return [each for each in some_of_each_kind() if each != "a"] + list(WRONG_STRINGS) + [
            "", "ab", "$", ["a", "b"], ("a",), ("a", "b", "c"), ("a", ""), ("a", "a"), ("a", ("b", "a")),
            (("a", "b"), ("c", "b")), ("a", ["b", "c"]), ("a", ("b",)), ("a", ("b", "c", "d")), ("a", None),
            ("a", "B"), ("a", 1), ("ab", "c"), (None, "a"),
            (("a", "b"), ()), {"a": "b"}, frozenset("ab"), deep, listed, shared, empty,
        ]

    def wrong_weights(self):
        return [each for each in some_of_each_kind() if each != {"a": 1}] + [
            {}, {"a": -1}, {"a": True}, {"a": 1.0}, {"ab": 1}, {"": 1}, {"A": 1}, {"$": 1}, {1: 1}, {"a": 301},
            {"a": 150, "b": 151}, {"a": None}, {("a",): 1}, [("a", 1)], {"a": 1, "b": "1"}, "a", ("a", "b"),
        ]

    def test_no_shape(self):
        for wrong in self.wrong_shapes():
            self.assert_raises(NoShape, wrong, cost, wrong, {"a": 1, "b": 2})
            self.assert_raises(NoShape, wrong, cost, wrong, {})

    def test_no_weights(self):
        for wrong in self.wrong_weights():
            self.assert_raises(NoCounts, wrong, cost, ("a", "b"), wrong)
            self.assert_raises(NoCounts, wrong, cost, "a", wrong)
            self.assert_raises(NoCounts, wrong, least_shape, wrong)
            self.assert_raises(NoCounts, wrong, least_ordered, wrong)

    def test_other_letters_than_the_weights(self):
        for shape, weights in (
            ("a", {"b": 1}), ("a", {"a": 1, "b": 0}), (("a", "b"), {"a": 1}), (("a", "b"), {"a": 1, "c": 1}),
            (("a", ("b", "c")), {"a": 1, "b": 1, "d": 1}), (("a", "b"), {"a": 1, "b": 1, "c": 0}),
        ):
            self.assert_raises(NoShape, shape, cost, shape, weights)

    def test_nothing_that_is_passed_is_changed(self):
        weights = {"d": 1, "b": 3, "c": 0, "a": 1}
        least_shape(weights)
        least_ordered(weights)
        cost((("a", "b"), ("c", "d")), weights)
        self.assertEqual(list(weights.items()), [("d", 1), ("b", 3), ("c", 0), ("a", 1)])


if __name__ == "__main__":
    unittest.main()
