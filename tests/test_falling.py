"""The parts into which texts fall, and the rows of these as rings."""

import unittest
from itertools import product

from tests.kinds import KindsCase, WRONG_STRINGS, some_of_each_kind
from tests.plain import all_rows, mixed_word, plain_row, texts_up_to, turns_of
from turnindex.errors import NoRow, NoText
from turnindex.falling import falling, falling_row, falling_text

SMALL = texts_up_to("ab", 9) + texts_up_to("abc", 6) + texts_up_to("adz", 4)
LONG = (
    "a" * 300, "ab" * 150, "ba" * 150, "abc" * 100, "a" * 299 + "b", "b" + "a" * 299, "z" * 150 + "a" * 150,
    mixed_word("ab", 300, 31), mixed_word("abcdefghijklmnopqrstuvwxyz", 300, 32),
)


def is_least_alone(word):
    """Whether the word is not empty and less than all its other turns."""
    return len(word) > 0 and all(word < turn for turn in turns_of(word)[1:])


def partings(text):
    """All ways to part a text."""
    for cuts in product((False, True), repeat=max(0, len(text) - 1)):
        places = [0] + [place for place, cut in enumerate(cuts, 1) if cut] + [len(text)]
        yield tuple(text[i:j] for i, j in zip(places, places[1:]) if i < j)


def falls(parts):
    return all(map(is_least_alone, parts)) and all(one >= other for one, other in zip(parts, parts[1:]))


class ExamplesTest(unittest.TestCase):

    def test_e06(self):
        self.assertEqual(falling("banana"), ("b", "an", "an", "a"))


class FallingTest(unittest.TestCase):

    def test_some_texts(self):
        for text, parts in (
            ("", ()), ("a", ("a",)), ("ab", ("ab",)), ("ba", ("b", "a")), ("aaa", ("a", "a", "a")),
            ("aab", ("aab",)), ("aba", ("ab", "a")), ("abab", ("ab", "ab")), ("abaabb", ("ab", "aabb")),
            ("zyx", ("z", "y", "x")), ("xyz", ("xyz",)), ("abcaba", ("abc", "ab", "a")),
        ):
            self.assertEqual(falling(text), parts)

    def test_the_result_is_a_tuple_of_strings(self):
        self.assertIs(falling("").__class__, tuple)
        self.assertIs(falling("banana").__class__, tuple)
        self.assertEqual({part.__class__ for part in falling("banana")}, {str})

    def test_the_parts_make_the_text_and_fall(self):
        for text in SMALL:
            self.assertEqual("".join(falling(text)), text)
            self.assertTrue(falls(falling(text)), text)

    def test_it_is_the_only_such_parting(self):
        for text in texts_up_to("ab", 8) + texts_up_to("abc", 5):
            self.assertEqual([parts for parts in partings(text) if falls(parts)], [falling(text)])


class FallingRowTest(unittest.TestCase):

    def test_some_texts(self):
        for text, row in (("", ""), ("a", "a"), ("ab", "ba"), ("ba", "ab"), ("aaa", "aaa"), ("abab", "bbaa")):
            self.assertEqual(falling_row(text), row)
        self.assertEqual(falling_row("banana"), plain_row((), ("b", "an", "an", "a")))

    def test_it_is_the_row_of_the_parts_as_rings(self):
        for text in texts_up_to("ab", 7) + texts_up_to("abc", 5):
            self.assertEqual(falling_row(text), plain_row((), falling(text)))
        self.assertIs(falling_row("").__class__, str)


class FallingTextTest(unittest.TestCase):

    def test_some_rows(self):
        for row, text in (("", ""), ("a", "a"), ("ba", "ab"), ("ab", "ba"), ("aabb", "bbaa"), ("bbaa", "abab")):
            self.assertEqual(falling_text(row), text)
        self.assertIs(falling_text("").__class__, str)

    def test_both_undo_one_another(self):
        for text in SMALL:
            self.assertEqual(falling_text(falling_row(text)), text)
        for row in all_rows("ab", 9) + all_rows("abc", 6):
            self.assertEqual(falling_row(falling_text(row)), row)

    def test_each_row_is_that_of_just_one_text(self):
        for letters, size in (("ab", 8), ("abc", 5)):
            texts = ["".join(word) for word in product(letters, repeat=size)]
            self.assertEqual(sorted(map(falling_row, texts)), texts)


class SizesTest(unittest.TestCase):

    def test_texts_of_300_letters(self):
        for text in LONG:
            self.assertEqual(len(text), 300)
            self.assertTrue(falls(falling(text)))
            self.assertEqual("".join(falling(text)), text)
            row = falling_row(text)
            self.assertEqual(sorted(row), sorted(text))
            self.assertEqual(falling_text(row), text)
        self.assertEqual(falling("a" * 300), ("a",) * 300)
        self.assertEqual(falling("ab" * 150), ("ab",) * 150)
        self.assertEqual(falling("a" * 299 + "b"), ("a" * 299 + "b",))
        self.assertEqual(falling_row(LONG[7]), plain_row((), falling(LONG[7])))

    def test_rows_of_300_and_360_signs(self):
        for row in LONG + ("a" * 360, "a" * 180 + "b" * 180, "b" * 180 + "a" * 180, mixed_word("ab", 360, 33),
                           mixed_word("abcdefghijklmnopqrstuvwxyz", 360, 34)):
            text = falling_text(row)
            self.assertEqual(sorted(text), sorted(row))
            self.assertEqual(falling_row(text), row)


class WrongArgumentsTest(KindsCase):

    def test_no_text(self):
        for function in (falling, falling_row):
            for wrong in some_of_each_kind() + list(WRONG_STRINGS) + ["$", "a$", "banana$"]:
                self.assert_raises(NoText, wrong, function, wrong)

    def test_no_row(self):
        for wrong in some_of_each_kind() + list(WRONG_STRINGS) + ["$A", "b a"]:
            self.assert_raises(NoRow, wrong, falling_text, wrong)

    def test_a_row_with_an_end(self):
        for wrong in ("$", "$$", "a$", "$a", "annb$aa", "ab$$ab"):
            self.assert_raises(NoRow, wrong, falling_text, wrong)


if __name__ == "__main__":
    unittest.main()
