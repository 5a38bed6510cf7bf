"""Ends that are put into a word, and the rings that are then left over."""

import unittest
from collections import Counter

from tests.kinds import KindsCase, WRONG_STRINGS, some_of_each_kind
from tests.plain import mixed_word, plain_steps, tally, texts_up_to
from turnindex.ends import ends_of, rings_by_end
from turnindex.errors import NoText
from turnindex.numbers import texts_number
from turnindex.rows import is_of_text, row_of

SMALL = texts_up_to("ab", 9) + texts_up_to("abc", 6) + texts_up_to("adz", 4)
LONG = (
    "a" * 300, "ab" * 150, "abc" * 100, "ba" * 150, "a" * 299 + "b", "b" + "a" * 299, "z" * 150 + "a" * 150,
    mixed_word("ab", 300, 21), mixed_word("abcdefghijklmnopqrstuvwxyz", 300, 22),
)


def plain_rings(row):
    """How many circles the steps back have, beside the ways that come to an end."""
    steps = plain_steps(row)
    left = set(range(len(row)))
    for place in set(range(len(row))) - set(steps):
        while place is not None:
            left.remove(place)
            place = steps[place]
    rings = 0
    while left:
        rings += 1
        place = min(left)
        while place in left:
            left.remove(place)
            place = steps[place]
    return rings


class ExamplesTest(unittest.TestCase):

    def test_e05(self):
        self.assertEqual([rings_by_end("ab"), ends_of("ab")], [[2, 1, 0], [2]])


class RingsByEndTest(unittest.TestCase):

    def test_some_words(self):
        for word, rings in (
            ("", [0]), ("a", [1, 0]), ("aa", [2, 1, 0]), ("ba", [1, 0, 1]), ("annbaa", [4, 3, 2, 1, 0, 1, 0]),
            ("bab", [2, 1, 2, 1]), ("zxy", [1, 0, 1, 2]),
        ):
            self.assertEqual(rings_by_end(word), rings)

    def test_like_rings_are_told_apart(self):
        self.assertEqual(rings_by_end("aaa"), [3, 2, 1, 0])
        self.assertEqual(rings_by_end("bbaa")[0], 2)

    def test_the_result_is_a_new_list_of_integers(self):
        told = rings_by_end("ab")
        told.append(5)
        self.assertEqual(rings_by_end("ab"), [2, 1, 0])
        self.assertIs(rings_by_end("ab").__class__, list)
        self.assertEqual({one.__class__ for one in rings_by_end("banana")}, {int})

    def test_each_small_word(self):
        for word in texts_up_to("ab", 7) + texts_up_to("abc", 4):
            rows = [word[:place] + "$" + word[place:] for place in range(len(word) + 1)]
            self.assertEqual(rings_by_end(word), [plain_rings(row) for row in rows])

    def test_neighbours_differ_by_just_one(self):
        for word in SMALL:
            rings = rings_by_end(word)
            self.assertEqual(len(rings), len(word) + 1)
            self.assertTrue(all(abs(one - other) == 1 for one, other in zip(rings, rings[1:])), word)


class EndsOfTest(unittest.TestCase):

    def test_some_words(self):
        for word, ends in (("", [0]), ("a", [1]), ("ba", [1]), ("annbaa", [4, 6]), ("aaaa", [4]), ("bba", [1, 3])):
            self.assertEqual(ends_of(word), ends)

    def test_an_end_behind_all(self):
        for word in ("a", "ab", "aab", "aaab", "abc"):
            self.assertIn(len(word), ends_of(word))

    def test_an_end_ahead_of_all_leaves_rings(self):
        # the end itself is then the whole text
        for word in filter(None, SMALL):
            self.assertNotIn(0, ends_of(word))
            self.assertGreater(rings_by_end(word)[0], 0)

    def test_words_without_ends(self):
        for word in ("bab", "abab", "baab", "babb", "ababab", "zaz", "baaab"):
            self.assertEqual([i for i in range(len(word) + 1) if is_of_text(word[:i] + "$" + word[i:])], [])
            self.assertEqual(ends_of(word), [])
            self.assertGreater(min(rings_by_end(word)), 0)
            self.assertIs(ends_of(word).__class__, list)

    def test_each_small_word(self):
        texts = {row_of(text) for text in SMALL}
        for word in SMALL:
            rows = [word[:place] + "$" + word[place:] for place in range(len(word) + 1)]
            self.assertEqual(ends_of(word), [place for place, row in enumerate(rows) if row in texts])

    def test_all_ends_together_are_as_many_as_texts(self):
        for letters, most in (("ab", 9), ("abc", 6), ("adz", 4)):
            words = texts_up_to(letters, most)
            ends = Counter()
            for word in words:
                ends[tally(word)] += len(ends_of(word))
            texts = Counter(map(tally, words))
            self.assertEqual(dict(ends), dict(texts))
            for key in texts:
                self.assertEqual(ends[key], texts_number(dict(key)))


class SizesTest(unittest.TestCase):

    def test_words_of_300_letters(self):
        for word in LONG:
            self.assertEqual(len(word), 300)
            rings = rings_by_end(word)
            self.assertEqual(len(rings), 301)
            self.assertTrue(all(abs(one - other) == 1 for one, other in zip(rings, rings[1:])))
            self.assertEqual(ends_of(word), [place for place, many in enumerate(rings) if many == 0])
        self.assertEqual(rings_by_end("a" * 300), list(range(300, -1, -1)))

    def test_rows_of_texts_of_300_letters(self):
        for text in LONG:
            row = row_of(text)
            place = row.index("$")
            word = row.replace("$", "")
            self.assertIn(place, ends_of(word))

    def test_some_places_of_long_words(self):
        for word in LONG:
            rings = rings_by_end(word)
            for place in (0, 1, 150, 299, 300):
                self.assertEqual(rings[place], plain_rings(word[:place] + "$" + word[place:]))


class WrongArgumentsTest(KindsCase):

    def test_no_text(self):
        for function in (ends_of, rings_by_end):
            for wrong in some_of_each_kind() + list(WRONG_STRINGS) + ["$", "a$", "annb$aa"]:
                self.assert_raises(NoText, wrong, function, wrong)


if __name__ == "__main__":
    unittest.main()
