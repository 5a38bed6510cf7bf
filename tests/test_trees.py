"""Trees of texts by shapes, against the texts themselves."""

import unittest
from itertools import product

from tests.kinds import KindsCase, WRONG_STRINGS, some_of_each_kind
from tests.plain import all_shapes, comb_shape, depths, mixed_word, texts_up_to
from turnindex.errors import NoNumber, NoShape, NoText, Unordered
from turnindex.indexes import Index
from turnindex.runs import RunIndex
from turnindex.shapes import cost, least_ordered, least_shape
from turnindex.trees import Tree

ALPHABET = "abcdefghijklmnopqrstuvwxyz"
SHAPES = all_shapes("a") + all_shapes("ab") + all_shapes("abc")
SMALL = [(text, shape) for shape in SHAPES for text in texts_up_to(sorted(depths(shape)), 4)]
SMALL += [(text, shape) for shape in all_shapes("abcd") for text in ("", "a", "dcab", "bdbdb", "abcdabca")]
LONG = (
    # numbers of letters that make the least shapes deep
    "".join(letter * many for letter, many in zip("abcdefghijk", (1, 1, 2, 3, 5, 8, 13, 21, 34, 55, 157))),
    "a" * 300, "ab" * 150, "abc" * 100, "a" * 299 + "b", "z" * 150 + "a" * 150, mixed_word("ab", 300, 1),
    mixed_word("abcdef", 300, 2), mixed_word(ALPHABET, 300, 3), (ALPHABET * 12)[:300],
)


def is_ordered(shape):
    return list(depths(shape)) == sorted(depths(shape))


def counts_of(text, shape):
    """How often each letter of the shape stands in the text."""
    return {letter: text.count(letter) for letter in depths(shape)}


class ExamplesTest(unittest.TestCase):

    def test_e18(self):
        t = Tree("banana", ("a", ("b", "n")))
        told = [t.access(2), t.rank("n", 5), t.select("a", 3), t.least(0, 4, 3), t.between(1, 6, "b", "n")]
        self.assertEqual(told, [("n", 2), (2, 2), (5, 1), ("b", 2), 2])


class TreeCase(unittest.TestCase):
    """A test case that can ask a tree all that it tells of a text."""

    def check_tree(self, text, shape, numbers, places):
        tree = Tree(text, shape)
        depth = depths(shape)
        for place in places:
            if place < len(text):
                self.assertEqual(tree.access(place), (text[place], depth[text[place]]))
        for letter in depth:
            for place in places:
                self.assertEqual(tree.rank(letter, place), (text[:place].count(letter), depth[letter]))
            found = [place for place, each in enumerate(text) if each == letter]
            for k in numbers:
                self.assertEqual(tree.select(letter, k), (found[k - 1] if k <= len(found) else None, depth[letter]))
        if is_ordered(shape):
            self.check_ordered(tree, text, depth, numbers, places)

    def check_ordered(self, tree, text, depth, numbers, places):
        for begin, end in product(places, repeat=2):
            if begin <= end:
                part = sorted(text[begin:end])
                for k in numbers:
                    if k <= len(part):
                        self.assertEqual(tree.least(begin, end, k), (part[k - 1], depth[part[k - 1]]))
                    else:
                        with self.assertRaises(NoNumber) as caught:
                            tree.least(begin, end, k)
                        self.assertIs(caught.exception.number, k)
                for low, high in product("abcz", repeat=2):
                    many = sum(low <= letter <= high for letter in part)
                    self.assertEqual(tree.between(begin, end, low, high), many)


class TreeTest(TreeCase):

    def test_all_small_texts_and_shapes(self):
        for text, shape in SMALL:
            self.check_tree(text, shape, range(1, len(text) + 3), range(len(text) + 1))

    def test_the_steps_of_access_come_to_the_cost(self):
        for text, shape in SMALL + [(text, least_shape(dict.fromkeys(ALPHABET, 1))) for text in LONG]:
            tree = Tree(text, shape)
            steps = sum(tree.access(place)[1] for place in range(len(text)))
            self.assertEqual(steps, cost(shape, counts_of(text, shape)))

    def test_a_shape_of_one_letter(self):
        tree = Tree("aaa", "a")
        self.assertEqual([tree.access(2), tree.rank("a", 2), tree.select("a", 3)], [("a", 0), (2, 0), (2, 0)])
        told = [tree.select("a", 4), tree.least(1, 3, 2), tree.between(0, 2, "a", "z")]
        self.assertEqual(told, [(None, 0), ("a", 0), 2])

    def test_letters_that_the_text_has_not(self):
        tree = Tree("abab", (("a", "b"), ("c", "d")))
        self.assertEqual([tree.rank("c", 4), tree.select("d", 1)], [(0, 2), (None, 2)])
        self.assertEqual([tree.between(0, 4, "b", "d"), tree.between(0, 4, "c", "d")], [2, 0])
        tree = Tree("", ("a", "b"))
        self.assertEqual([tree.rank("a", 0), tree.select("b", 1)], [(0, 1), (None, 1)])
        self.assertEqual(tree.between(0, 0, "a", "b"), 0)

    def test_a_letter_that_does_not_stand_so_often(self):
        tree = Tree("banana", ("a", ("b", "n")))
        self.assertEqual([tree.select("n", k) for k in (1, 2, 3, 300, 10 ** 30)], [(2, 2), (4, 2)] + [(None, 2)] * 3)

    def test_begin_equal_to_end(self):
        tree = Tree("banana", ("a", ("b", "n")))
        for place in range(7):
            self.assertEqual(tree.between(place, place, "a", "z"), 0)
            self.assert_not_so_many(tree, place, place, 1)

    def assert_not_so_many(self, tree, begin, end, k):
        with self.assertRaises(NoNumber) as caught:
            tree.least(begin, end, k)
        self.assertIs(caught.exception.number, k)

    def test_high_less_than_low(self):
        tree = Tree("banana", ("a", ("b", "n")))
        for low, high in (("b", "a"), ("n", "b"), ("z", "c"), ("n", "a")):
            self.assertEqual(tree.between(0, 6, low, high), 0)

    def test_from_and_to_letters_that_the_shape_has_not(self):
        tree = Tree("banana", ("a", ("b", "n")))
        for low, high, many in (
            ("c", "m", 0), ("c", "z", 2), ("a", "m", 4), ("a", "z", 6), ("o", "z", 0), ("n", "n", 2),
        ):
            self.assertEqual(tree.between(0, 6, low, high), many)

    def test_kinds_of_the_results(self):
        tree = Tree("banana", ("a", ("b", "n")))
        for told in (tree.access(0), tree.rank("a", 1), tree.select("a", 9), tree.least(0, 6, 1)):
            self.assertIs(told.__class__, tuple)
        self.assertIs(tree.between(0, 6, "a", "b").__class__, int)
        self.assertIs(tree.between(0, 0, "a", "b").__class__, int)

    def test_nothing_changes_the_object(self):
        tree = Tree("banana", ("a", ("b", "n")))
        kept = repr(vars(tree))
        for _ in range(2):
            tree.access(3)
            tree.rank("n", 6)
            tree.select("a", 2)
            tree.select("a", 9)
            tree.least(1, 5, 2)
            tree.between(0, 6, "a", "n")
        self.assertEqual(repr(vars(tree)), kept)


class EqualTest(unittest.TestCase):

    def test_equal_just_if_text_and_shape_are(self):
        few = [(text, shape) for text, shape in SMALL if len(text) < 3]
        trees = [(Tree(text, shape), text, shape) for text, shape in few]
        for one, other in product(trees[::2], trees):
            equal = one[1:] == other[1:]
            self.assertIs(one[0] == other[0], equal)
            self.assertIs(one[0] != other[0], not equal)

    def test_of_equal_parameters_made_anew(self):
        self.assertEqual(Tree("".join(["ba", "b"]), tuple(["a", "b"])), Tree("bab", ("a", "b")))
        self.assertNotEqual(Tree("bab", ("a", "b")), Tree("bab", ("b", "a")))
        self.assertNotEqual(Tree("", "a"), Tree("", "b"))
        self.assertNotEqual(Tree("a", "a"), Tree("", "a"))

    def test_objects_of_other_kinds(self):
        tree = Tree("a", "a")
        for other in some_of_each_kind() + [Index(("a",)), RunIndex("a"), "a", ("a", "a")]:
            self.assertIs(tree == other, False)
            self.assertIs(other == tree, False)


class SizesTest(TreeCase):

    def test_texts_of_300_letters(self):
        numbers = (1, 2, 3, 11, 12, 13, 149, 150, 299, 300, 301)
        places = (0, 1, 2, 3, 137, 150, 151, 298, 299, 300)
        for text in LONG:
            letters = "".join(sorted(set(text)))
            counts = {letter: text.count(letter) for letter in ALPHABET}
            few = {letter: text.count(letter) for letter in letters}
            for shape in (
                least_shape(counts), least_ordered(counts), least_shape(few), least_ordered(few), comb_shape(ALPHABET),
                comb_shape(letters), comb_shape(ALPHABET[::-1]),
            ):
                self.check_tree(text, shape, numbers, places)


class WrongArgumentsTest(KindsCase):

    def wrong_texts(self):
        return some_of_each_kind() + list(WRONG_STRINGS) + ["$", "a$"]

    def wrong_numbers(self, least, greatest):
        numbers = [least - 1, least - 2, greatest + 1, greatest + 2, 10 ** 30, -(10 ** 30)]
        others = some_of_each_kind() + ["", "0", "a"]
        return [number for number in numbers + others if number.__class__ is not int or not least <= number <= greatest]

    def wrong_from_1_on(self):
        return [number for number in self.wrong_numbers(1, 1) if number.__class__ is not int or number < 1]

    def test_no_text(self):
        for wrong in self.wrong_texts():
            self.assert_raises(NoText, wrong, Tree, wrong, ("a", "b"))
            self.assert_raises(NoText, wrong, Tree, wrong, None)

    def test_no_shape(self):
        for wrong in self.wrong_texts() + [
            "", "ab", ["a", "b"], ("a",), ("a", "b", "c"), ("a", "a"), ("a", ("b", "a")), ("a", ["b", "c"]),
            ("a", None), ((), ()),
        ]:
            self.assert_raises(NoShape, wrong, Tree, "", wrong)
            self.assert_raises(NoShape, wrong, Tree, "a", wrong)

    def test_a_shape_that_lacks_a_letter_of_the_text(self):
        for text, shape in (("a", "b"), ("ab", "a"), ("banana", ("a", "b")), ("banana", ("b", ("n", "c")))):
            self.assert_raises(NoShape, shape, Tree, text, shape)

    def test_no_place(self):
        for text in ("banana", "", "b"):
            tree = Tree(text, ("a", ("b", "n")))
            for wrong in self.wrong_numbers(0, len(text) - 1):
                self.assert_raises(NoNumber, wrong, tree.access, wrong)
            for wrong in self.wrong_numbers(0, len(text)):
                self.assert_raises(NoNumber, wrong, tree.rank, "a", wrong)
                self.assert_raises(NoNumber, wrong, tree.rank, "n", wrong)

    def test_no_number_of_select(self):
        for tree in (Tree("banana", ("a", ("b", "n"))), Tree("", ("a", "c"))):
            for wrong in self.wrong_from_1_on():
                self.assert_raises(NoNumber, wrong, tree.select, "a", wrong)

    def test_no_letter_of_the_shape(self):
        tree = Tree("banana", ("a", ("b", "n")))
        for wrong in self.wrong_texts() + ["", "ab", "an", "c", "z", "banana"]:
            self.assert_raises(NoText, wrong, tree.rank, wrong, 0)
            self.assert_raises(NoText, wrong, tree.rank, wrong, -1)
            self.assert_raises(NoText, wrong, tree.select, wrong, 1)
            self.assert_raises(NoText, wrong, tree.select, wrong, None)

    def test_no_begin_and_no_end(self):
        ordered, unordered = Tree("banana", ("a", ("b", "n"))), Tree("banana", ("n", ("b", "a")))
        for tree in (ordered, unordered):
            for wrong in self.wrong_numbers(0, 6):
                self.assert_raises(NoNumber, wrong, tree.least, wrong, 6, 1)
                self.assert_raises(NoNumber, wrong, tree.least, wrong, None, None)
                self.assert_raises(NoNumber, wrong, tree.between, wrong, 6, "a", "b")
                self.assert_raises(NoNumber, wrong, tree.between, wrong, None, None, None)
            for begin in (0, 3, 6):
                for wrong in self.wrong_numbers(begin, 6):
                    self.assert_raises(NoNumber, wrong, tree.least, begin, wrong, 1)
                    self.assert_raises(NoNumber, wrong, tree.least, begin, wrong, None)
                    self.assert_raises(NoNumber, wrong, tree.between, begin, wrong, "a", "b")
                    self.assert_raises(NoNumber, wrong, tree.between, begin, wrong, None, None)

    def test_no_number_of_least(self):
        for shape in (("a", ("b", "n")), ("n", ("b", "a"))):
            tree = Tree("banana", shape)
            for wrong in self.wrong_from_1_on():
                self.assert_raises(NoNumber, wrong, tree.least, 0, 6, wrong)
                self.assert_raises(NoNumber, wrong, tree.least, 2, 2, wrong)

    def test_no_letters_of_between(self):
        for shape in (("a", ("b", "n")), ("n", ("b", "a"))):
            tree = Tree("banana", shape)
            for wrong in self.wrong_texts() + ["", "ab", "banana"]:
                self.assert_raises(NoText, wrong, tree.between, 0, 6, wrong, "a")
                self.assert_raises(NoText, wrong, tree.between, 0, 6, wrong, None)
                self.assert_raises(NoText, wrong, tree.between, 0, 6, "a", wrong)

    def test_unordered(self):
        for shape in [each for each in all_shapes("abc") if not is_ordered(each)] + [("b", "a")]:
            for text in ("", "a", "bab"):
                tree = Tree(text, shape)
                self.assert_raises(Unordered, shape, tree.between, 0, len(text), "b", "a")
                self.assert_raises(Unordered, shape, tree.between, 0, 0, "x", "z")
                # ahead of the number that is too large
                for k in (1, len(text) + 1, 10 ** 30):
                    self.assert_raises(Unordered, shape, tree.least, 0, len(text), k)

    def test_not_so_many(self):
        tree = Tree("banana", ("a", ("b", "n")))
        for begin, end, k in ((0, 6, 7), (0, 0, 1), (6, 6, 1), (2, 4, 3), (0, 6, 10 ** 30)):
            self.assert_raises(NoNumber, k, tree.least, begin, end, k)


if __name__ == "__main__":
    unittest.main()
