"""Rings whose rows are by letters, balanced rings and rings with all words, against looking at all turns and parts."""

import unittest
from itertools import permutations, product
from math import factorial, gcd

from tests.kinds import KindsCase, WRONG_STRINGS, some_of_each_kind
from tests.plain import is_primitive, mixed_word, plain_row, texts_up_to, turns_of
from turnindex.balanced import (
    against, all_words_number, balanced_ring, fall_rings, has_all_words, is_balanced, least_runs, row_is_by, unbalanced,
)
from turnindex.errors import NoCounts, NoNumber, NoText
from turnindex.rows import read_back, row_of_ring
from turnindex.runs import runs

ALPHABET = "abcdefghijklmnopqrstuvwxyz"
RINGS = texts_up_to("ab", 10)[1:]
WORDS = texts_up_to("ab", 7)[1:] + texts_up_to("abc", 5)[1:] + texts_up_to("abcd", 4)[1:]
HARD = (
    "a" * 300, "b" * 300, "ab" * 150, "aab" * 100, "a" * 299 + "b", "b" * 299 + "a", "a" * 150 + "b" * 150,
    mixed_word("ab", 300, 1), mixed_word("ab", 150, 2) * 2,
)


def parts_in_ring(word, size):
    """All unlike parts of a size in the ring, read round and round."""
    endless = word * (size // len(word) + 2)
    return {endless[i:i + size] for i in range(len(word))}


def row_goes_by(word, letters):
    """Whether the letters ahead of the sorted turns come in the order of these letters."""
    places = [letters.index(turn[-1]) for turn in sorted(turns_of(word))]
    return places == sorted(places)


def plain_against(word, letters):
    """The least tuple by going through all parts of the ring, from the shortest on."""
    for size in range(len(word) + 1):
        parts = sorted(parts_in_ring(word, size + 2))
        shown = [
            (one[1:-1], one[0], one[-1], other[0], other[-1]) for one in parts for other in parts
            if one[1:-1] == other[1:-1] and one[-1] < other[-1] and letters.index(other[0]) < letters.index(one[0])
        ]
        if shown:
            return min(shown)
    return None


def is_plainly_balanced(word):
    for size in range(1, len(word) + 1):
        numbers = [part.count("a") for part in parts_in_ring(word, size)]
        if max(numbers) - min(numbers) > 1:
            return False
    return True


def plain_unbalanced(word):
    for size in range(len(word) + 1):
        parts = parts_in_ring(word, size + 2)
        shown = [part[1:-1] for part in parts if part[0] + part[-1] == "aa" and "b" + part[1:-1] + "b" in parts]
        if shown:
            return min(shown)
    return None


def rings_with(p, q):
    """The least turns of all rings with so many a and b."""
    words = set(map("".join, product("ab", repeat=p + q)))
    return {min(turns_of(word)) for word in words if word.count("a") == p}


def changed_over(word, place):
    """The word with the letter at a place and the next one in each other's place."""
    return word[:place] + word[place + 1] + word[place] + word[place + 2:]


class ExamplesTest(unittest.TestCase):

    def test_e14(self):
        told = [is_balanced("aabab"), unbalanced("aabb"), balanced_ring(3, 2), fall_rings({"a": 1, "b": 2, "c": 1})]
        self.assertEqual(told, [True, "", "aabab", 3])


class RowIsByTest(unittest.TestCase):

    def test_some_words(self):
        for word, letters, told in (
            ("a", "a", True), ("a", "ba", True), ("a", "zab", True), ("ab", "ba", True), ("ab", "ab", False),
            ("aabb", "ba", False), ("aabab", "ba", True), ("abc", "cab", True), ("abc", "cba", False),
            ("acb", "cba", False), ("aaa", "a", True), ("abab", "ba", True), ("aabcc", "abc", False),
        ):
            self.assertIs(row_is_by(word, letters), told)

    def test_all_small_words(self):
        for word in WORDS:
            for many in range(len(set(word)), 5):
                for letters in map("".join, permutations("abcd", many)):
                    if set(word) <= set(letters):
                        told = row_is_by(word, letters)
                        self.assertIs(told, row_goes_by(word, letters))
                        self.assertEqual(against(word, letters), plain_against(word, letters))
                        self.assertEqual(against(word, letters) is None, told)

    def test_the_row_has_alike_letters_together(self):
        for word in WORDS:
            row = plain_row((), (word,))
            by = "".join(letter for letter, _ in runs(row))
            if len(set(by)) == len(by):
                self.assertTrue(row_is_by(word, by))
                self.assertIsNone(against(word, by))


class AgainstTest(unittest.TestCase):

    def test_some_words(self):
        for word, letters, told in (
            ("a", "a", None), ("ab", "ba", None), ("ab", "ab", ("", "b", "a", "a", "b")),
            ("aabb", "ba", ("", "a", "a", "b", "b")), ("aaabab", "ba", ("a", "a", "a", "b", "b")),
            ("abcb", "abc", ("", "b", "a", "a", "b")), ("acb", "bca", None),
            ("acb", "bac", ("", "c", "b", "a", "c")),
        ):
            self.assertEqual(against(word, letters), told)

    def test_all_rings_of_two_letters(self):
        for word in RINGS:
            for letters in ("ab", "ba"):
                self.assertEqual(against(word, letters), plain_against(word, letters))

    def test_longer_rings_of_many_letters(self):
        for seed in range(12):
            word = mixed_word(ALPHABET[:3 + seed], 30, seed)
            letters = mixed_word(ALPHABET, 400, seed)
            letters = "".join(sorted(ALPHABET, key=lambda letter: letters.find(letter)))
            self.assertEqual(against(word, letters), plain_against(word, letters))
            self.assertEqual(row_is_by(word, letters), row_goes_by(word, letters))


class BalancedTest(unittest.TestCase):

    def test_some_words(self):
        for word, part in (
            ("a", None), ("b", None), ("aaa", None), ("ab", None), ("ba", None), ("abab", None), ("aabab", None),
            ("babaa", None), ("aabb", ""), ("bbaa", ""), ("aaabab", "a"), ("bbbaba", "b"), ("aabaabab", None),
            ("aababbabab", ""), ("aabaababab", "aba"),
        ):
            self.assertEqual(unbalanced(word), part)
            self.assertIs(is_balanced(word), part is None)

    def test_all_small_rings(self):
        for word in RINGS:
            self.assertIs(is_balanced(word), is_plainly_balanced(word))
            self.assertEqual(unbalanced(word), plain_unbalanced(word))
            self.assertEqual(is_balanced(word), unbalanced(word) is None)
            self.assertEqual(is_balanced(word), row_goes_by(word, "ba"))

    def test_the_part_is_the_same_backwards(self):
        for word in RINGS + [mixed_word("ab", 60, seed) for seed in range(20)]:
            part = unbalanced(word)
            if part is not None:
                self.assertEqual(part, part[::-1])
                self.assertIn("a" + part + "a", word * 3)
                self.assertIn("b" + part + "b", word * 3)

    def test_a_row_with_two_runs_is_that_of_a_balanced_ring(self):
        for word in RINGS:
            if len(set(word)) == 2:
                self.assertEqual(len(runs(row_of_ring(word))) == 2, is_balanced(word))


class BalancedRingTest(unittest.TestCase):

    def test_some_numbers(self):
        for p, q, ring in (
            (1, 0, "a"), (0, 1, "b"), (3, 0, "aaa"), (0, 4, "bbbb"), (1, 1, "ab"), (2, 2, "abab"), (3, 2, "aabab"),
            (2, 3, "ababb"), (4, 2, "aabaab"), (5, 1, "aaaaab"), (5, 3, "aabaabab"), (6, 4, "aababaabab"),
        ):
            self.assertEqual(balanced_ring(p, q), ring)

    def test_it_is_the_only_ring_with_this_row(self):
        for p, q in product(range(8), repeat=2):
            if 0 < p + q < 10:
                balanced = [ring for ring in rings_with(p, q) if row_goes_by(ring, "ba")]
                self.assertEqual(balanced, [balanced_ring(p, q)])

    def test_larger_numbers(self):
        for p, q in ((150, 150), (149, 151), (199, 101), (299, 1), (1, 299), (300, 0), (0, 300), (180, 120), (34, 55)):
            ring = balanced_ring(p, q)
            self.assertEqual((ring.count("a"), ring.count("b"), len(ring)), (p, q, p + q))
            self.assertEqual(row_of_ring(ring), "b" * q + "a" * p)
            self.assertEqual(ring, min(turns_of(ring)))
            self.assertTrue(is_balanced(ring))
            many = gcd(p, q)
            root = ring[:len(ring) // many]
            self.assertEqual(ring, root * many)
            self.assertEqual(len(set(turns_of(root))), len(root))


class FallRingsTest(unittest.TestCase):

    def test_some_counts(self):
        for counts, number in (
            ({}, 0), ({"a": 0}, 0), ({"a": 0, "z": 0}, 0), ({"a": 1}, 1), ({"q": 5}, 5), ({"a": 2, "b": 2}, 2),
            ({"b": 3, "a": 2}, 1), ({"a": 1, "b": 2, "c": 1}, 3), ({"c": 1, "a": 1, "b": 2}, 3),
            ({"a": 1, "b": 0, "c": 1}, 1), (dict.fromkeys(ALPHABET, 1), 13),
        ):
            self.assertEqual(fall_rings(counts), number)
            self.assertIs(fall_rings(counts).__class__, int)

    def test_against_all_collections_of_rings(self):
        for letters in ("ab", "abc", "bxyz"):
            for numbers in product(range(4), repeat=len(letters)):
                row = "".join(letter * many for letter, many in reversed(list(zip(letters, numbers))))
                texts, rings = read_back(row)
                self.assertEqual(texts, ())
                self.assertEqual(plain_row((), rings), row)
                self.assertEqual(fall_rings(dict(zip(letters, numbers))), len(rings))

    def test_two_and_three_letters(self):
        for x, y, z in product(range(9), repeat=3):
            self.assertEqual(fall_rings({"a": x, "b": y}), gcd(x, y))
            self.assertEqual(fall_rings({"c": z, "a": x, "b": y}), gcd(x + y, y + z))

    def test_larger_counts(self):
        for x, y, z in ((100, 100, 100), (90, 30, 180), (1, 298, 1), (299, 0, 1), (0, 300, 0), (77, 77, 146)):
            self.assertEqual(fall_rings({"x": x, "y": y, "z": z}), gcd(x + y, y + z))
        self.assertEqual(fall_rings({"a": 299, "z": 1}), 1)


class LeastRunsTest(unittest.TestCase):

    def test_some_numbers(self):
        big = 10 ** 400
        for p, q, number in (
            (1, 1, 2), (1, 2, 2), (2, 2, 4), (2, 3, 2), (6, 4, 4), (5, 5, 4), (big, big + 1, 2), (big, big, 4),
            (big, 1, 2), (2 * big, 6, 4), (1, big, 2),
        ):
            self.assertEqual(least_runs(p, q), number)

    def test_against_all_rings(self):
        for p, q in product(range(1, 9), repeat=2):
            if p + q < 11:
                rings = [ring for ring in rings_with(p, q) if is_primitive(ring)]
                self.assertEqual(least_runs(p, q), min(len(runs(row_of_ring(ring))) for ring in rings))


class HasAllWordsTest(unittest.TestCase):

    def test_some_words(self):
        for word, letters, k, told in (
            ("a", "a", 1, True), ("a", "a", 7, True), ("a", "a", 300, True), ("aa", "a", 2, False),
            ("ab", "ab", 1, True), ("ba", "ab", 1, True), ("aabb", "ab", 2, True), ("abba", "ab", 2, True),
            ("abab", "ab", 2, False), ("aababb", "ab", 2, False), ("aaababbb", "ab", 3, True),
            ("aabb", "abc", 2, False), ("ac", "ab", 1, False),
            ("xy", "ab", 1, False), ("ab", "a", 1, False), ("a", "b", 1, False), ("cab", "abc", 1, True),
            ("ab", "ab", 300, False), ("a", "ab", 300, False), ("bd", "bd", 1, True), ("a", ALPHABET, 300, False),
        ):
            self.assertIs(has_all_words(word, letters, k), told)

    def test_against_all_small_rings(self):
        for letters, most in (("a", 4), ("ab", 9), ("abc", 6)):
            for word, k in product(texts_up_to(letters, most)[1:], (1, 2, 3, 4)):
                endless = word * (k + 1)
                places = [endless[i:i + k] for i in range(len(word))]
                told = all(places.count("".join(each)) == 1 for each in product(letters, repeat=k))
                told = told and len(word) == len(letters) ** k
                self.assertIs(has_all_words(word, letters, k), told)

    def test_the_row_in_pieces(self):
        for letters, k in (("ab", 3), ("ab", 2), ("abc", 1), ("ab", 1), ("bx", 3)):
            s = len(letters)
            for word in map("".join, product(letters, repeat=s ** k)):
                row = row_of_ring(word)
                by_row = all(sorted(row[i:i + s]) == list(letters) for i in range(0, len(row), s))
                self.assertIs(has_all_words(word, letters, k), by_row and len(read_back(row)[1]) == 1)

    def test_large_rings(self):
        for s, k in ((2, 8), (3, 5), (4, 4), (6, 3), (17, 2), (26, 1), (7, 2)):
            letters = ALPHABET[:s]
            # the least turns of all primitive rings whose sizes divide k, in their order
            sizes = [size for size in range(1, k + 1) if k % size == 0]
            parts = [word for size in sizes for word in map("".join, product(letters, repeat=size))]
            ring = "".join(sorted(part for part in parts if all(part < turn for turn in turns_of(part)[1:])))
            self.assertEqual(len(ring), s ** k)
            self.assertTrue(has_all_words(ring, letters, k))
            self.assertTrue(has_all_words(ring[5:] + ring[:5], letters, k))
            self.assertFalse(has_all_words(ring, letters, k + 1))
            self.assertFalse(has_all_words(ring + "a", letters, k))
            if k > 1:
                self.assertFalse(has_all_words(changed_over(ring, s ** k // 2 + 3), letters, k))
                self.assertFalse(has_all_words(ring, letters, k - 1))
        for word, k in product(HARD, (1, 2, 8, 299, 300)):
            self.assertFalse(has_all_words(word, "ab", k))


class AllWordsNumberTest(unittest.TestCase):

    def test_some_numbers(self):
        for s, k, number in (
            (1, 1, 1), (1, 300, 1), (1, 10 ** 30, 1), (2, 1, 1), (2, 2, 1), (2, 3, 2), (2, 4, 16), (2, 5, 2048),
            (3, 1, 2), (3, 2, 24), (26, 1, factorial(25)), (300, 1, factorial(299)), (2, 8, 2 ** 120),
            (17, 2, factorial(17) ** 17 // 289), (3, 5, 6 ** 81 // 243),
        ):
            self.assertEqual(all_words_number(s, k), number)
            self.assertIs(all_words_number(s, k).__class__, int)

    def test_against_all_small_rings(self):
        for s, k in ((1, 1), (2, 1), (2, 2), (2, 3), (3, 1), (4, 1), (5, 1), (2, 4)):
            letters = ALPHABET[:s]
            rest = map("".join, product(letters, repeat=s ** k - k))
            # each such ring has just one turn that begins with k of the first letter
            words = ["a" * k + word for word in rest]
            self.assertEqual(all_words_number(s, k), sum(has_all_words(word, letters, k) for word in words))

    def test_nine_letters_of_three(self):
        rings = set()
        for word in map("".join, product("abc", repeat=7)):
            if has_all_words("aa" + word, "abc", 2):
                rings.add(min(turns_of("aa" + word)))
        self.assertEqual(all_words_number(3, 2), len(rings))


class SizesTest(unittest.TestCase):

    def test_rings_of_300_letters(self):
        for word in HARD:
            self.assertEqual(is_balanced(word), row_goes_by(word, "ba"))
            for letters in ("ab", "ba", "zbya"):
                told = against(word, letters)
                self.assertEqual(row_is_by(word, letters), told is None)
                if len(set(word)) == 2 and told is not None and len(told[0]) < 20:
                    self.assertEqual(told, plain_against(word, letters))

    def test_balanced_rings_with_two_letters_changed_over(self):
        for p, q in ((149, 151), (199, 101), (180, 120), (299, 1)):
            ring = balanced_ring(p, q)
            for place in range(0, 299, 13):
                word = changed_over(ring, place)
                part = unbalanced(word)
                self.assertEqual(part, plain_unbalanced(word))
                self.assertEqual(is_balanced(word), part is None)
                told = against(word, "ba")
                self.assertEqual(told, None if part is None else (part, "a", "a", "b", "b"))

    def test_long_parts(self):
        longest = 0
        ring = balanced_ring(149, 151)
        for place in range(299):
            longest = max(longest, len(unbalanced(changed_over(ring, place)) or ""))
        self.assertGreater(longest, 140)

    def test_all_letters(self):
        for word in (mixed_word(ALPHABET, 300, 3), (ALPHABET * 12)[:300], (ALPHABET[::-1] * 12)[:300]):
            for letters in (ALPHABET, ALPHABET[::-1]):
                self.assertEqual(against(word, letters), plain_against(word, letters))


class WrongArgumentsTest(KindsCase):

    def wrong_texts(self):
        return some_of_each_kind() + list(WRONG_STRINGS) + ["$", "a$"]

    def wrong_numbers(self, least):
        wrong = [least - 1, -1, -(10 ** 30), True, False]
        return wrong + [each for each in some_of_each_kind() if not isinstance(each, int) or isinstance(each, bool)]

    def test_no_word(self):
        for wrong in self.wrong_texts() + [""]:
            for function in (is_balanced, unbalanced):
                self.assert_raises(NoText, wrong, function, wrong)
            for function in (row_is_by, against):
                self.assert_raises(NoText, wrong, function, wrong, "ab")
                self.assert_raises(NoText, wrong, function, wrong, ["ab"])
            self.assert_raises(NoText, wrong, has_all_words, wrong, "ab", 1)
            self.assert_raises(NoText, wrong, has_all_words, wrong, None, 0)

    def test_words_with_other_letters_than_a_and_b(self):
        for wrong in ["abc", "aabz", "cab"] + [letter + "ab" for letter in ALPHABET[2:]]:
            self.assert_raises(NoText, wrong, is_balanced, wrong)
            self.assert_raises(NoText, wrong, unbalanced, wrong)

    def test_no_letters(self):
        for wrong in self.wrong_texts() + ["", "a", "b", "bc", "aba", "abb", "aab"]:
            for function in (row_is_by, against):
                self.assert_raises(NoText, wrong, function, "ab", wrong)
        for wrong in self.wrong_texts() + ["", "ba", "abb", "aa", "acb"]:
            self.assert_raises(NoText, wrong, has_all_words, "ab", wrong, 1)
            self.assert_raises(NoText, wrong, has_all_words, "xyz", wrong, 0)

    def test_no_number(self):
        for wrong in self.wrong_numbers(1):
            self.assert_raises(NoNumber, wrong, has_all_words, "ab", "ab", wrong)
            self.assert_raises(NoNumber, wrong, has_all_words, "c", "ab", wrong)
            for function in (least_runs, all_words_number):
                self.assert_raises(NoNumber, wrong, function, wrong, 1)
                self.assert_raises(NoNumber, wrong, function, 1, wrong)
                self.assert_raises(NoNumber, wrong, function, wrong, None)

    def test_no_numbers_of_letters(self):
        for wrong in self.wrong_numbers(0):
            self.assert_raises(NoNumber, wrong, balanced_ring, wrong, 1)
            self.assert_raises(NoNumber, wrong, balanced_ring, wrong, None)
            self.assert_raises(NoNumber, wrong, balanced_ring, 1, wrong)
            self.assert_raises(NoNumber, wrong, balanced_ring, 0, wrong)

    def test_both_numbers_0(self):
        self.assert_raises(NoNumber, 0, balanced_ring, 0, 0)

    def test_no_counts(self):
        for wrong in some_of_each_kind() + [
            {"a": -1}, {"a": True}, {"a": 1.0}, {"ab": 1}, {"": 1}, {"A": 1}, {"$": 1}, {1: 1}, {"a": 301},
            {"a": 150, "b": 151}, {"a": None}, {("a",): 1}, [("a", 1)], {"a": 1, "b": "1"},
        ]:
            if wrong != {} and wrong != {"a": 1}:
                self.assert_raises(NoCounts, wrong, fall_rings, wrong)


if __name__ == "__main__":
    unittest.main()
