"""Least absent words, and the texts that are told by them, against going through all words and texts."""

import unittest
from itertools import combinations, product

from tests.kinds import KindsCase, WRONG_STRINGS, some_of_each_kind
from tests.plain import mixed_word, parts_of_text, places_of, texts_up_to
from turnindex.absent import least_absent, text_of_absent
from turnindex.errors import NoText

ALPHABET = "abcdefghijklmnopqrstuvwxyz"
SMALL = [(text, "ab") for text in texts_up_to("ab", 7)] + [(text, "abc") for text in texts_up_to("abc", 4)]
SMALL += [(text, "abz") for text in texts_up_to("ab", 5)] + [(text, "y") for text in texts_up_to("y", 6)]


def plain_least_absent(text, letters):
    """All words over the letters, up to one longer than the text, that are looked for."""
    parts = set(parts_of_text(text))
    words = texts_up_to(letters, len(text) + 1)
    return sorted(word for word in words if word not in parts and word[1:] in parts and word[:-1] in parts)


def quick_least_absent(text, letters):
    """The same for longer texts: such a word is a part and one letter more."""
    parts = set(parts_of_text(text))
    longer = {part + letter for part in parts for letter in letters}
    return sorted(word for word in longer if word not in parts and word[1:] in parts)


def longest_repeat_size(text):
    return max(len(part) for part in parts_of_text(text) if part == "" or len(places_of(part, text)) > 1)


def fibonacci_word(size):
    one, other = "a", "ab"
    while len(other) < size:
        one, other = other, other + one
    return other[:size]


class ExamplesTest(unittest.TestCase):

    def test_e12(self):
        told = [least_absent("ab", "ab"), text_of_absent(["ba", "aaa", "bb"], "ab"), text_of_absent(["ba"], "ab")]
        self.assertEqual(told, [["aa", "ba", "bb"], "aab", None])


class LeastAbsentTest(unittest.TestCase):

    def test_some_texts(self):
        for text, letters, words in (
            ("", "", []), ("", "a", ["a"]), ("", "abz", ["a", "b", "z"]), ("a", "a", ["aa"]), ("aaa", "a", ["aaaa"]),
            ("a", "ab", ["aa", "b"]), ("b", "abc", ["a", "bb", "c"]), ("aab", "ab", ["aaa", "ba", "bb"]),
            ("aba", "ab", ["aa", "bab", "bb"]), ("banana", "abn", ["aa", "ab", "bb", "bn", "nanan", "nb", "nn"]),
        ):
            self.assertEqual(least_absent(text, letters), words)

    def test_each_small_text(self):
        for text, letters in SMALL:
            told = least_absent(text, letters)
            self.assertEqual(told, plain_least_absent(text, letters))
            self.assertIs(told.__class__, list)
            self.assertEqual(told, quick_least_absent(text, letters))

    def test_the_longest_is_two_longer_than_the_longest_repeat(self):
        for text, letters in SMALL:
            if text != "":
                longest = max(map(len, least_absent(text, letters)))
                self.assertEqual(longest, longest_repeat_size(text) + 2)

    def test_texts_of_60_letters(self):
        for text in (
            "a" * 60, "ab" * 30, "abc" * 20, "a" * 30 + "b" * 30, "a" * 59 + "b", mixed_word("ab", 60, 1),
            mixed_word(ALPHABET, 60, 2), ALPHABET * 2 + "aabbccdd", "".join(x + "z" for x in mixed_word("abc", 30, 3)),
        ):
            self.assertEqual(len(text), 60)
            letters = "".join(sorted(set(text)))
            self.assertEqual(least_absent(text, letters), quick_least_absent(text, letters))
            self.assertEqual(least_absent(text, ALPHABET), quick_least_absent(text, ALPHABET))
        self.assertEqual(least_absent("a" * 60, "a"), ["a" * 61])


class TextOfAbsentTest(unittest.TestCase):

    def test_some_sets(self):
        for words, letters, text in (
            ([], "", ""), ((), "", ""), ([], "a", None), ((), "ab", None), (["a"], "a", ""), (("a", "b"), "ab", ""),
            (["aa"], "a", "a"), (["aaaa"], "a", "aaa"), (["aa", "b"], "ab", "a"), (["aa"], "ab", None),
            (["aa", "aaa"], "a", None), (["a", "aa"], "a", None), (["aa", "bb"], "ab", None), (["b"], "ab", None),
            (["aa", "bab", "bb"], "ab", "aba"), (["ba", "aaa", "bb"], "abc", None), (["aa", "bb", "ba"], "ab", "ab"),
            (["aa", "bab", "bba", "aba", "abb", "bbb"], "ab", None), (["aa", "ab", "ba", "bb"], "ab", None),
        ):
            self.assertEqual(text_of_absent(words, letters), text)

    def test_a_list_or_a_tuple_in_any_order_with_repetitions(self):
        words = least_absent("banana", "abn")
        for told in (words, tuple(words), words[::-1], words + words, tuple(words[::-1] + words[2:4])):
            self.assertEqual(text_of_absent(told, "abn"), "banana")
        passed = ["bb", "ba", "aaa", "ba"]
        self.assertEqual(text_of_absent(passed, "ab"), "aab")
        self.assertEqual(passed, ["bb", "ba", "aaa", "ba"])

    def test_each_small_text_is_told_by_its_words(self):
        for text, letters in SMALL:
            self.assertEqual(text_of_absent(least_absent(text, letters), letters), text)
            self.assertIs(text_of_absent(tuple(least_absent(text, letters)), letters).__class__, str)

    def sets_of_words(self, letters, longest, most):
        """All sets of at most so many words of at most so many letters."""
        words = texts_up_to(letters, longest)[1:]
        for many in range(most + 1):
            yield from combinations(words, many)

    def check_all_sets(self, letters, longest, most):
        # a text with a longer word than this in it twice would have a longer absent one
        size = len(letters) ** (longest - 1) + longest - 2
        texts = {tuple(plain_least_absent(text, letters)): text for text in self.texts_with(letters, longest, size)}
        found = 0
        for words in self.sets_of_words(letters, longest, most):
            text = text_of_absent(words, letters)
            self.assertEqual(text, texts.get(tuple(sorted(words))))
            found += text is not None
        return found

    def texts_with(self, letters, longest, size):
        """All texts of at most so many letters in which no word of one letter less than the longest stands twice."""
        texts = [""]
        for text in texts:
            if len(text) < size:
                for letter in letters:
                    longer = text + letter
                    if len(places_of(longer[len(longer) - longest + 1:], longer)) <= 1 or len(longer) < longest - 1:
                        texts.append(longer)
        return texts

    def test_all_sets_of_small_words(self):
        self.assertEqual(self.check_all_sets("a", 6, 6), 6)
        self.assertGreater(self.check_all_sets("ab", 3, 14), 20)
        self.assertGreater(self.check_all_sets("abc", 2, 12), 15)

    def test_some_sets_of_longer_words(self):
        self.assertGreater(self.check_all_sets("ab", 4, 4), 20)

    def test_sets_that_differ_by_one_word(self):
        for text in texts_up_to("ab", 6):
            words = least_absent(text, "ab")
            others = texts_up_to("ab", 5)[1:]
            for word in others:
                changed = sorted(set(words) ^ {word})
                told = text_of_absent(changed, "ab")
                self.assertNotEqual(told, text)
                if told is not None:
                    self.assertEqual(plain_least_absent(told, "ab"), changed)

    def test_more_letters_than_the_words_have(self):
        self.assertIsNone(text_of_absent(["ba", "aaa", "bb"], "abc"))
        self.assertEqual(text_of_absent(["ba", "aaa", "bb", "c"], "abc"), "aab")


class SizesTest(unittest.TestCase):

    def test_texts_of_many_letters(self):
        for text in (
            "a" * 60, "ab" * 30, "abc" * 20, "a" * 30 + "b" * 30, "a" * 299, "a" * 150 + "b" * 149,
            fibonacci_word(300), mixed_word("ab", 60, 4), mixed_word("ab", 200, 5), mixed_word("abc", 150, 6),
        ):
            letters = "".join(sorted(set(text)))
            words = quick_least_absent(text, letters)
            self.assertLessEqual(sum(map(len, words)), 5000)
            self.assertEqual(text_of_absent(words, letters), text)
            self.assertIsNone(text_of_absent(words[1:], letters))

    def test_all_letters(self):
        for text in (ALPHABET, ALPHABET[::-1], ALPHABET + "a", mixed_word(ALPHABET, 35, 7)):
            words = quick_least_absent(text, ALPHABET)
            self.assertLessEqual(len(words), 1000)
            self.assertEqual(text_of_absent(words, ALPHABET), text)

    def test_1000_words_with_5000_signs(self):
        words = [mixed_word(ALPHABET, 5, seed) for seed in range(1000)]
        self.assertIsNone(text_of_absent(words, ALPHABET))
        self.assertIsNone(text_of_absent(tuple(words), ALPHABET))

    def test_words_of_300_letters(self):
        self.assertEqual(text_of_absent(["a" * 300], "a"), "a" * 299)
        self.assertEqual(text_of_absent(["a" * 300] * 16, "a"), "a" * 299)
        self.assertIsNone(text_of_absent([mixed_word("ab", 300, seed) for seed in range(16)], "ab"))
        self.assertIsNone(text_of_absent(["a" * 300, "a" * 299], "a"))
        self.assertEqual(text_of_absent(["a" * 200, "b" * 200, "ba"], "ab"), "a" * 199 + "b" * 199)

    def test_very_many_texts_without_the_words(self):
        # sorted texts of at most 99 of each letter
        words = [x + y for x, y in product(ALPHABET, repeat=2) if y < x] + [x * 100 for x in ALPHABET]
        self.assertIsNone(text_of_absent(words, ALPHABET))


class WrongArgumentsTest(KindsCase):

    def wrong_texts(self):
        return some_of_each_kind() + list(WRONG_STRINGS) + ["$", "a$"]

    def test_no_text(self):
        for wrong in self.wrong_texts():
            self.assert_raises(NoText, wrong, least_absent, wrong, "ab")
            self.assert_raises(NoText, wrong, least_absent, wrong, None)

    def test_no_letters(self):
        for wrong in self.wrong_texts() + ["ba", "aa", "abca", "abb", "zyx"]:
            self.assert_raises(NoText, wrong, least_absent, "", wrong)
            self.assert_raises(NoText, wrong, least_absent, "a", wrong)
            self.assert_raises(NoText, wrong, text_of_absent, ["a"], wrong)
            self.assert_raises(NoText, wrong, text_of_absent, None, wrong)

    def test_letters_that_lack_one_of_the_text(self):
        for text, letters in (("a", ""), ("ab", "a"), ("banana", "ab"), ("z", ALPHABET[:-1])):
            self.assert_raises(NoText, letters, least_absent, text, letters)

    def test_the_text_comes_ahead_of_the_letters(self):
        for wrong in self.wrong_texts():
            self.assert_raises(NoText, wrong, least_absent, wrong, ["ab"])

    def test_the_letters_come_ahead_of_the_words(self):
        for wrong in self.wrong_texts():
            self.assert_raises(NoText, "ba", text_of_absent, wrong, "ba")

    def test_no_list_and_no_tuple(self):
        for wrong in some_of_each_kind() + ["", "a", "ab", {"a": 1}, frozenset("ab")]:
            if not isinstance(wrong, (list, tuple)):
                self.assert_raises(NoText, wrong, text_of_absent, wrong, "ab")

    def test_the_first_thing_that_is_no_word(self):
        for wrong in self.wrong_texts() + ["", "c", "abc"]:
            for words in ([wrong], ["a", wrong], ["ab", "b", wrong, "", None, "c"], [wrong, "d"]):
                self.assert_raises(NoText, wrong, text_of_absent, words, "ab")
                self.assert_raises(NoText, wrong, text_of_absent, tuple(words), "ab")
        self.assert_raises(NoText, "a", text_of_absent, ["a"], "")
        self.assert_raises(NoText, "", text_of_absent, [""], "")


if __name__ == "__main__":
    unittest.main()
