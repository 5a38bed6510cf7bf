"""The index of a list of texts, against plain searching."""

import copy
import unittest
from itertools import product

from tests.kinds import KindsCase, WRONG_STRINGS, some_of_each_kind
from tests.plain import cut, mixed_word, parts_of_text, places_of, plain_row, suffixes_in_order, texts_up_to
from turnindex.errors import NoNumber, NoText
from turnindex.indexes import Index
from turnindex.rows import row_of_list
from turnindex.runs import RunIndex

ALPHABET = "abcdefghijklmnopqrstuvwxyz"
SMALL_LISTS = (
    [(text,) for text in texts_up_to("ab", 6) + texts_up_to("abc", 4) + texts_up_to("az", 3)]
    + list(product(texts_up_to("ab", 3), repeat=2))
    + list(product(texts_up_to("ab", 1), repeat=3)) + [("ab", "ba", "ab"), ("", "aab", "", "ab", "aab")]
)
LONG_LISTS = (
    ("a" * 300,), ("ab" * 150,), ("abc" * 100,), ("a" * 299 + "b",), (mixed_word("ab", 300, 51),),
    (mixed_word(ALPHABET, 300, 52),), ("abcabc",) * 50, ("",) * 50, ("",) * 49 + ("a" * 300,), ("a",) * 50,
    cut(mixed_word("ab", 300, 53), 50, 54), cut(mixed_word(ALPHABET, 300, 55), 50, 56), cut("a" * 300, 50, 57),
)


def plain_search(suffixes, texts, pattern):
    """What search tells, found in the suffixes in their order."""
    at = [i for i, (number, place) in enumerate(suffixes) if texts[number][place:].startswith(pattern)]
    ends = [pattern[k:] for k in range(len(pattern) + 1)]
    found = max(len(end) for end in ends if any(end in text for text in texts))
    if found < len(pattern):
        return None, None, found + 1
    return at[0], at[-1] + 1, found


class ExamplesTest(unittest.TestCase):

    def test_e08(self):
        i = Index(("banana",))
        told = [i.search("ana"), i.search("nab"), i.count("an"), i.suffix_at(2), i.extract(0, 2, 4)]
        self.assertEqual(told, [(2, 4, 3), (None, None, 2), 2, (0, 3), ("na", 4)])


class ValuesTest(unittest.TestCase):

    def test_texts_and_row(self):
        for texts in SMALL_LISTS:
            index = Index(texts)
            self.assertIs(index.texts, texts)
            self.assertEqual(index.row, row_of_list(texts))

    def test_some(self):
        self.assertEqual(Index(("banana",)).row, "annb$aa")
        self.assertEqual(Index(("a", "", "a")).row, "a$a$$")
        self.assertEqual(Index(("",)).row, "$")

    def test_nothing_changes_the_object(self):
        texts = ("banana", "", "ban")
        index = Index(texts)
        kept = copy.deepcopy(vars(index))
        index.texts_with("an").append(9)
        index.search("nan")
        index.count("x")
        index.rank("a", 3)
        index.begin("n")
        index.suffix_at(4)
        index.extract(0, 1, 4)
        self.assertEqual(vars(index), kept)
        self.assertEqual(index.texts_with("an"), [0, 2])


class EqualTest(unittest.TestCase):

    def test_equal_just_if_made_of_equal_texts(self):
        lists = sorted(set(SMALL_LISTS))[::7]
        for one, other in product(lists, repeat=2):
            self.assertIs(Index(one) == Index(other), one == other)
            self.assertIs(Index(one) != Index(other), one != other)

    def test_of_equal_texts_made_anew(self):
        self.assertEqual(Index(("banana", "ab")), Index(tuple(["ban" + "ana", "ab"])))

    def test_lists_that_differ_in_order_or_in_empty_texts(self):
        self.assertNotEqual(Index(("a", "b")), Index(("b", "a")))
        self.assertNotEqual(Index(("a",)), Index(("a", "")))

    def test_objects_of_other_kinds(self):
        for other in (("a",), "a", None, 0, RunIndex("a"), Index, [("a",)]):
            self.assertIs(Index(("a",)) == other, False)
            self.assertIs(Index(("a",)) != other, True)


class RankAndBeginTest(unittest.TestCase):

    def test_each_letter_and_place(self):
        for texts in SMALL_LISTS:
            index = Index(texts)
            row = plain_row(texts, ())
            for letter in "abcmz":
                self.assertEqual(index.begin(letter), len([sign for sign in row if sign < letter]))
                for place in range(len(row) + 1):
                    self.assertEqual(index.rank(letter, place), len([sign for sign in row[:place] if sign == letter]))

    def test_some(self):
        index = Index(("banana",))
        self.assertEqual([index.rank("n", place) for place in range(8)], [0, 0, 1, 2, 2, 2, 2, 2])
        self.assertEqual([index.begin(letter) for letter in "abcnz"], [1, 4, 5, 5, 7])

    def test_letters_that_are_in_no_text(self):
        index = Index(("banana", "b"))
        self.assertEqual(index.rank("z", 9), 0)
        self.assertEqual(index.begin("z"), 9)
        self.assertEqual(index.begin("a"), 2)


class SearchTest(unittest.TestCase):

    def test_each_small_pattern(self):
        for texts in SMALL_LISTS:
            index = Index(texts)
            suffixes = suffixes_in_order(texts)
            for pattern in texts_up_to("abc", 3) + texts_up_to("ab", 5) + parts_of_text(texts[-1]) + ["za", "az", "zz"]:
                self.assertEqual(index.search(pattern), plain_search(suffixes, texts, pattern))

    def test_the_empty_pattern(self):
        for texts in SMALL_LISTS:
            self.assertEqual(Index(texts).search(""), (0, sum(map(len, texts)) + len(texts), 0))

    def test_a_letter_that_is_in_no_text(self):
        for texts in (("",), ("banana",), ("", ""), ("b", "c")):
            for letter in "adz":
                if not any(letter in text for text in texts):
                    self.assertEqual(Index(texts).search(letter), (None, None, 1))
                    self.assertEqual(Index(texts).search("bb" + letter), (None, None, 1))

    def test_a_pattern_longer_than_all_texts(self):
        self.assertEqual(Index(("ab", "b")).search("aab"), (None, None, 3))
        self.assertEqual(Index(("aaa",)).search("aaaa"), (None, None, 4))
        self.assertEqual(Index(("aaa", "aa")).search("aaaaaaa"), (None, None, 4))
        self.assertEqual(Index(("",)).search("ab"), (None, None, 1))

    def test_no_pattern_goes_from_text_to_text(self):
        self.assertEqual(Index(("ab", "ba")).search("abba"), (None, None, 3))
        self.assertEqual(Index(("a", "a")).search("aa"), (None, None, 2))

    def test_the_result_is_a_tuple(self):
        for pattern in ("", "an", "x"):
            self.assertIs(Index(("banana",)).search(pattern).__class__, tuple)


class CountTest(unittest.TestCase):

    def test_each_small_pattern(self):
        for texts in SMALL_LISTS:
            index = Index(texts)
            for pattern in texts_up_to("abc", 3) + texts_up_to("ab", 5)[8:] + parts_of_text(texts[-1]) + ["za"]:
                self.assertEqual(index.count(pattern), sum(len(places_of(pattern, text)) for text in texts))
                having = [number for number, text in enumerate(texts) if pattern in text]
                self.assertEqual(index.texts_with(pattern), having)

    def test_the_empty_pattern(self):
        self.assertEqual(Index(("",)).count(""), 1)
        self.assertEqual(Index(("banana", "", "ab")).count(""), 7 + 1 + 3)
        self.assertEqual(Index(("banana", "", "ab")).texts_with(""), [0, 1, 2])

    def test_patterns_in_no_text(self):
        index = Index(("banana", "", "ab"))
        for pattern in ("c", "bb", "ananan", "bananab", "ab" * 20):
            self.assertEqual(index.count(pattern), 0)
            self.assertEqual(index.texts_with(pattern), [])

    def test_equal_texts_count_each(self):
        index = Index(("ana", "ana", "", "ana"))
        self.assertEqual(index.count("a"), 6)
        self.assertEqual(index.texts_with("a"), [0, 1, 3])

    def test_overlapping_places_count_each(self):
        self.assertEqual(Index(("aaaa", "aa")).count("aa"), 4)

    def test_kinds_of_the_results(self):
        index = Index(("ana", "b"))
        for pattern in ("", "a", "z"):
            self.assertIs(index.count(pattern).__class__, int)
            self.assertIs(index.texts_with(pattern).__class__, list)


class SuffixAtTest(unittest.TestCase):

    def test_each_place(self):
        for texts in SMALL_LISTS:
            index = Index(texts)
            told = [index.suffix_at(place) for place in range(len(index.row))]
            self.assertEqual(told, suffixes_in_order(texts))

    def test_the_first_and_the_last_place(self):
        index = Index(("banana",))
        self.assertEqual([index.suffix_at(0), index.suffix_at(6)], [(0, 6), (0, 2)])
        self.assertEqual(Index(("",)).suffix_at(0), (0, 0))
        self.assertEqual([Index(("a", "a")).suffix_at(place) for place in range(4)], [(0, 1), (1, 1), (0, 0), (1, 0)])


class ExtractTest(unittest.TestCase):

    def test_each_part(self):
        for texts in SMALL_LISTS:
            index = Index(texts)
            for number, text in enumerate(texts):
                for begin in range(len(text) + 1):
                    for end in range(begin, len(text) + 1):
                        steps = len(text) - begin if begin < end else 0
                        self.assertEqual(index.extract(number, begin, end), (text[begin:end], steps))

    def test_nothing_and_all(self):
        index = Index(("banana", "", "ab"))
        for place in range(7):
            self.assertEqual(index.extract(0, place, place), ("", 0))
        self.assertEqual(index.extract(0, 0, 6), ("banana", 6))
        self.assertEqual(index.extract(0, 0, 1), ("b", 6))
        self.assertEqual(index.extract(0, 5, 6), ("a", 1))
        self.assertEqual(index.extract(1, 0, 0), ("", 0))
        self.assertEqual(index.extract(2, 0, 2), ("ab", 2))


class SizesTest(unittest.TestCase):

    def test_long_lists(self):
        for texts in LONG_LISTS:
            index = Index(texts)
            suffixes = suffixes_in_order(texts)
            self.assertEqual([index.suffix_at(place) for place in range(len(suffixes))], suffixes)
            whole = max(texts, key=len)
            patterns = ["", "a", "z", "ab", "ba", "aab", "a" * 150, "ab" * 75, whole, "b" + whole, whole + "b"]
            patterns += [whole[k:] for k in range(0, len(whole), 37)] + [whole[:k] for k in range(0, len(whole), 41)]
            for pattern in patterns:
                self.assertEqual(index.search(pattern), plain_search(suffixes, texts, pattern))
                self.assertEqual(index.count(pattern), sum(len(places_of(pattern, text)) for text in texts))
                having = [number for number, text in enumerate(texts) if pattern in text]
                self.assertEqual(index.texts_with(pattern), having)
            for number, text in enumerate(texts):
                size = len(text)
                self.assertEqual(index.extract(number, 0, size), (text, size))
                self.assertEqual(index.extract(number, size // 2, size), (text[size // 2:], size - size // 2))
            self.assertEqual(index.begin("z"), len(index.row) - index.row.count("z"))
            self.assertEqual(index.rank("a", len(index.row)), index.row.count("a"))

    def test_steps_of_long_patterns(self):
        index = Index(("a" * 300,))
        self.assertEqual(index.search("a" * 300), (300, 301, 300))
        self.assertEqual(index.search("b" + "a" * 299), (None, None, 300))
        self.assertEqual(index.search("a" * 301), (None, None, 301))


class WrongArgumentsTest(KindsCase):

    def wrong_texts(self):
        return some_of_each_kind() + list(WRONG_STRINGS) + ["$", "a$"]

    def wrong_numbers(self, least, greatest):
        numbers = [least - 1, least - 2, greatest + 1, greatest + 2, 10 ** 30, -(10 ** 30)]
        others = some_of_each_kind() + ["", "0", "a"]
        return [number for number in numbers + others if number.__class__ is not int or not least <= number <= greatest]

    def test_no_texts(self):
        for wrong in self.wrong_texts() + ["", "a", "banana"]:
            if not isinstance(wrong, tuple):
                self.assert_raises(NoText, wrong, Index, wrong)

    def test_the_empty_tuple(self):
        wrong = ()
        self.assert_raises(NoText, wrong, Index, wrong)

    def test_a_tuple_with_a_thing_that_is_no_text(self):
        for wrong in self.wrong_texts():
            for texts in ((wrong,), ("a", wrong), (wrong, "a"), ("", wrong, "$"), ("a", "", wrong, None)):
                self.assert_raises(NoText, wrong, Index, texts)

    def test_no_letter(self):
        index = Index(("banana", "ab"))
        for wrong in self.wrong_texts() + ["", "ab", "aa", "banana"]:
            self.assert_raises(NoText, wrong, index.rank, wrong, 0)
            self.assert_raises(NoText, wrong, index.begin, wrong)

    def test_no_place_of_rank(self):
        for texts in (("banana", "ab"), ("",), ("", "", "")):
            index = Index(texts)
            for wrong in self.wrong_numbers(0, len(index.row)):
                self.assert_raises(NoNumber, wrong, index.rank, "a", wrong)
            self.assertEqual(index.rank("z", len(index.row)), 0)

    def test_no_pattern(self):
        index = Index(("banana", "ab"))
        for wrong in self.wrong_texts():
            for method in (index.search, index.count, index.texts_with):
                self.assert_raises(NoText, wrong, method, wrong)

    def test_no_place_of_suffix_at(self):
        for texts in (("banana", "ab"), ("",), ("", "", "")):
            index = Index(texts)
            for wrong in self.wrong_numbers(0, len(index.row) - 1):
                self.assert_raises(NoNumber, wrong, index.suffix_at, wrong)

    def test_no_numbers_of_extract(self):
        index = Index(("banana", "", "ab"))
        for wrong in self.wrong_numbers(0, 2):
            self.assert_raises(NoNumber, wrong, index.extract, wrong, 0, 0)
        for number, size in ((0, 6), (1, 0), (2, 2)):
            for wrong in self.wrong_numbers(0, size):
                self.assert_raises(NoNumber, wrong, index.extract, number, wrong, size)
            for begin in range(size + 1):
                for wrong in self.wrong_numbers(begin, size):
                    self.assert_raises(NoNumber, wrong, index.extract, number, begin, wrong)

    def test_the_first_wrong_argument_counts(self):
        index = Index(("banana", "", "ab"))
        self.assert_raises(NoText, "ab", index.rank, "ab", -1)
        self.assert_raises(NoText, "", index.rank, "", None)
        self.assert_raises(NoNumber, 3, index.extract, 3, -1, 99)
        self.assert_raises(NoNumber, True, index.extract, True, None, None)
        self.assert_raises(NoNumber, 7, index.extract, 0, 7, 8)
        self.assert_raises(NoNumber, -1, index.extract, 0, -1, -2)
        self.assert_raises(NoNumber, 3, index.extract, 2, 3, 1)
        self.assert_raises(NoNumber, 1, index.extract, 0, 2, 1)


if __name__ == "__main__":
    unittest.main()
