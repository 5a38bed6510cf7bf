"""Texts that are alike for all parts of a length, against going through all texts with the same letters."""

import unittest
from collections import Counter
from itertools import combinations_with_replacement, product

from tests.kinds import KindsCase, WRONG_STRINGS, some_of_each_kind
from tests.plain import mixed_word, texts_up_to
from turnindex.alike import alike, alike_number, alone, another, exchange, parting, parts_of, ways
from turnindex.errors import NoNumber, NoText

ALPHABET = "abcdefghijklmnopqrstuvwxyz"
LISTS = (texts_up_to("ab", 8), texts_up_to("abc", 5), texts_up_to("abcd", 4), texts_up_to("a", 6))
LONG = (
    "a" * 60, "ab" * 30, "aab" * 20, "abcde" * 12, "a" * 59 + "b", "b" + "a" * 59, "a" * 30 + "b" * 30,
    mixed_word("ab", 60, 1), mixed_word("abc", 60, 2), mixed_word(ALPHABET, 60, 3),
    # one other letter between any two drawn ones
    "".join(letter + "z" for letter in mixed_word("abc", 29, 4)) + "ab",
    "".join(letter + "z" for letter in mixed_word(ALPHABET, 29, 5)) + "zz",
    # all words of k letters once
    "aaaaabbbbbabbbaabbababbaaababaabaaaa", "aaabaacabbabcacbaccbbbcbcccaa",
    "aaggfgegdgcgbgaffefdfcfbfaeedecebeaddcdbdaccbcabba",
    # two parts that stand twice, far from one another
    "a" * 29 + "b" + "a" * 29 + "c", mixed_word("ab", 30, 6) * 2,
)


def pieces(text, size):
    return [text[i:i + size] for i in range(len(text) - size + 1)]


def key_of(text, k):
    """What is equal just for texts that are alike by k."""
    if len(text) < k:
        return text
    return (len(text), text[:k - 1], tuple(sorted(Counter(pieces(text, k)).items())))


def groups(texts, k):
    """The groups of texts that are alike by k, from the least text on."""
    found = {}
    for text in sorted(texts):
        found.setdefault(key_of(text, k), []).append(text)
    return list(found.values())


def plain_exchanges(text, k):
    """All exchanges, from the least on, each with the text that it makes."""
    words = pieces(text, k - 1)
    for i in range(len(words)):
        for j, p, q in combinations_with_replacement(range(i + 1, len(words)), 3):
            if p < q and words[i] == words[p] and words[j] == words[q]:
                made = text[:i] + text[p:q] + text[j:p] + text[i:j] + text[q:]
                if made != text:
                    yield (i, j, p, q), made


class ExamplesTest(unittest.TestCase):

    def test_e13(self):
        told = [alike_number("aaba", 2), parting("aaba", "abaa"), exchange("aaba", 2)]
        self.assertEqual(told, [2, 3, (0, 1, 1, 3)])


class PartsOfTest(unittest.TestCase):

    def test_some_texts(self):
        for text, k, parts in (
            ("", 1, []), ("", 5, []), ("a", 1, [("a", 1)]), ("a", 2, []), ("banana", 1, [("a", 3), ("b", 1), ("n", 2)]),
            ("banana", 2, [("an", 2), ("ba", 1), ("na", 2)]), ("banana", 6, [("banana", 1)]), ("banana", 7, []),
            ("aaaa", 2, [("aa", 3)]), ("ba", 10 ** 30, []),
        ):
            self.assertEqual(parts_of(text, k), parts)
            self.assertIs(parts_of(text, k).__class__, list)

    def test_each_small_text(self):
        for texts in LISTS:
            for text, k in product(texts, range(1, 10)):
                self.assertEqual(parts_of(text, k), sorted(Counter(pieces(text, k)).items()))


class AlikeTest(unittest.TestCase):

    def test_some_texts(self):
        for one, other, k, told in (
            ("", "", 1, True), ("", "", 7, True), ("", "a", 1, False), ("a", "a", 5, True), ("a", "b", 1, False),
            ("a", "b", 2, False), ("ab", "ba", 1, True), ("ab", "ba", 2, False), ("ab", "ba", 3, False),
            ("aaba", "abaa", 2, True), ("aaba", "abaa", 3, False), ("abab", "baba", 2, False), ("ab", "abab", 1, False),
            ("abba", "abba", 10 ** 30, True), ("abba", "baab", 10 ** 30, False), ("abcab", "bcabc", 2, False),
            ("aab", "aba", 1, True), ("aab", "bbc", 1, False),
        ):
            self.assertIs(alike(one, other, k), told)

    def test_each_two_small_texts(self):
        for texts in LISTS:
            few = texts[:130] + texts[-20:]
            for one, other, k in product(few, few, (1, 2, 3, 4, 9)):
                self.assertIs(alike(one, other, k), key_of(one, k) == key_of(other, k))

    def test_by_k_above_its_length_a_text_is_alike_to_itself_alone(self):
        for texts in LISTS:
            for one, other in product(texts[:40], repeat=2):
                for k in (len(one) + 1, len(one) + 2, 300, 10 ** 30):
                    self.assertIs(alike(one, other, k), one == other)


class PartingTest(unittest.TestCase):

    def test_some_texts(self):
        for one, other, k in (
            ("", "", None), ("banana", "banana", None), ("", "a", 1), ("a", "", 1), ("a", "b", 1), ("ab", "ba", 2),
            ("ab", "ac", 1), ("aab", "aabb", 1), ("aaba", "abaa", 3), ("aabaaa", "aaabaa", 4), ("abab", "baba", 2),
        ):
            self.assertEqual(parting(one, other), k)

    def test_each_two_small_texts(self):
        for texts in LISTS:
            few = texts[:130] + texts[-20:]
            for one, other in product(few, repeat=2):
                least = next((k for k in range(1, 10) if key_of(one, k) != key_of(other, k)), None)
                self.assertEqual(parting(one, other), least)
                if one != other and len(one) == len(other):
                    self.assertLessEqual(least, len(one) // 2 + 1)

    def test_long_texts(self):
        for one, other in product(LONG, repeat=2):
            least = next((k for k in range(1, 61) if key_of(one, k) != key_of(other, k)), None)
            self.assertEqual(parting(one, other), least)
        self.assertEqual(parting("a" * 29 + "b" + "a" * 30, "a" * 30 + "b" + "a" * 29), 31)


class NumberTest(unittest.TestCase):

    def test_some_texts(self):
        for text, k, number in (
            ("", 1, 1), ("", 9, 1), ("a", 1, 1), ("a", 2, 1), ("ab", 1, 2), ("ab", 2, 1), ("aabb", 1, 6),
            ("banana", 1, 60), ("banana", 2, 1), ("aaba", 2, 2), ("abcabdab", 3, 2), ("ab", 10 ** 30, 1),
        ):
            self.assertEqual(alike_number(text, k), number)
            self.assertIs(alike_number(text, k).__class__, int)

    def test_against_all_small_texts(self):
        for texts in LISTS + (texts_up_to("ab", 9), texts_up_to("abc", 6)):
            for k in range(1, 11):
                for group in groups(texts, k):
                    for text in group:
                        self.assertEqual(alike_number(text, k), len(group))
                        others = [other for other in group if other != text]
                        self.assertEqual(another(text, k), others[0] if others else None)

    def test_alone_against_all_small_texts(self):
        for texts in LISTS:
            sizes = {k: {text: len(group) for group in groups(texts, k) for text in group} for k in range(1, 10)}
            for text in texts:
                self.assertEqual(alone(text), min(k for k in sizes if sizes[k][text] == 1))

    def test_alone_of_some_texts(self):
        for text, k in (
            ("", 1), ("a", 1), ("aaaa", 1), ("ab", 2), ("banana", 2), ("aaba", 3), ("aab", 2), ("abcabdab", 4),
            ("a" * 60, 1), ("ab" * 30, 2), ("a" * 29 + "b" + "a" * 30, 31), ("a" * 29 + "b" + "a" * 29 + "c", 30),
        ):
            self.assertEqual(alone(text), k)

    def test_the_letters_alone(self):
        self.assertEqual(alike_number("a" * 30 + "b" * 30, 1), 118264581564861424)
        self.assertEqual(alike_number(ALPHABET, 1), 403291461126605635584000000)
        self.assertEqual(alike_number(ALPHABET, 2), 1)

    def test_all_words_of_k_letters_once(self):
        # one for each ring of all words of k letters and each of its places of the first k - 1 letters
        self.assertEqual(alike_number("aaaaabbbbbabbbaabbababbaaababaabaaaa", 5), 2048 * 2)
        self.assertEqual(alike_number("aaabaacabbabcacbaccbbbcbcccaa", 3), 6 ** 9 // 27 * 3)

    def test_long_texts(self):
        least = {text: alone(text) for text in LONG}
        for text, k in product(LONG, (1, 2, 3, 5, 8, 16, 29, 30, 31, 59, 60, 61, 10 ** 30)):
            number = alike_number(text, k)
            other = another(text, k)
            self.assertEqual(number > 1, other is not None)
            self.assertEqual(number > 1, exchange(text, k) is not None)
            self.assertEqual(number > 1, least[text] > k)
            if other is not None:
                self.assertNotEqual(other, text)
                self.assertEqual(key_of(other, k), key_of(text, k))
                self.assertEqual(alike_number(other, k), number)

    def test_another_of_long_texts(self):
        self.assertEqual(another("a" * 59 + "b", 1), "a" * 58 + "ba")
        self.assertEqual(another("b" + "a" * 59, 1), "a" * 59 + "b")
        self.assertEqual(another("a" * 30 + "b" * 30, 1), "a" * 29 + "ba" + "b" * 29)
        self.assertEqual(another("ab" * 30, 1), "a" * 30 + "b" * 30)
        self.assertIsNone(another("ab" * 30, 2))
        self.assertEqual(another("a" * 29 + "b" + "a" * 30, 30), "a" * 30 + "b" + "a" * 29)


class ExchangeTest(unittest.TestCase):

    def test_some_texts(self):
        for text, k, found in (
            ("", 1, None), ("a", 1, None), ("a", 2, None), ("ab", 1, (0, 1, 1, 2)), ("aab", 1, (0, 1, 1, 3)),
            ("aaba", 2, (0, 1, 1, 3)), ("aaaa", 1, None), ("ab", 10 ** 30, None), ("abcabdab", 3, (0, 3, 3, 6)),
            ("xaybxcy", 2, (0, 2, 4, 6)), ("xaybxay", 2, None), ("abcab", 2, None), ("abcab", 1, (0, 1, 1, 2)),
        ):
            self.assertEqual(exchange(text, k), found)

    def test_against_all_places(self):
        for texts in (texts_up_to("ab", 7), texts_up_to("abc", 5)):
            for text, k in product(texts, (1, 2, 3, 4, 5, 7, 8, 9)):
                found = next(plain_exchanges(text, k), (None, None))[0]
                self.assertEqual(exchange(text, k), found)
                self.assertEqual(found is not None, alike_number(text, k) > 1)

    def test_an_exchange_keeps_alike(self):
        for text, k in product(texts_up_to("ab", 7), (1, 2, 3, 4)):
            for _, made in plain_exchanges(text, k):
                self.assertTrue(alike(text, made, k))

    def test_longer_texts(self):
        for seed, k in product(range(6), (1, 2, 3, 4)):
            text = mixed_word("abc", 14, seed)
            self.assertEqual(exchange(text, k), next(plain_exchanges(text, k), (None, None))[0])


class WaysTest(unittest.TestCase):

    def assert_leads(self, one, other, k):
        texts = ways(one, other, k)
        self.assertIs(texts.__class__, list)
        self.assertEqual((texts[0], texts[-1]), (one, other))
        self.assertLessEqual(len(texts), max(1, len(one) - k + 2))
        for ahead, behind in zip(texts, texts[1:]):
            self.assertIn(behind, [made for _, made in plain_exchanges(ahead, k)])

    def test_equal_texts(self):
        for text, k in product(("", "a", "banana", "a" * 60), (1, 2, 6, 7, 60, 10 ** 30)):
            self.assertEqual(ways(text, text, k), [text])

    def test_texts_that_are_not_alike(self):
        for one, other, k in (
            ("", "a", 1), ("a", "b", 1), ("ab", "ba", 2), ("ab", "ba", 3), ("aaba", "abaa", 3), ("ab", "abab", 1),
            ("ab", "ba", 10 ** 30),
        ):
            self.assertIsNone(ways(one, other, k))

    def test_all_small_texts_that_are_alike(self):
        for texts in (texts_up_to("ab", 6), texts_up_to("abc", 4)):
            for k in range(1, 6):
                for group in groups(texts, k):
                    for one, other in product(group, repeat=2):
                        self.assert_leads(one, other, k)

    def test_larger_groups(self):
        for text, k in (("abababcbcab", 2), ("aabbaabab", 2), ("abcabdabeab", 3), ("aabaabbab", 3)):
            group = [text]
            while len(group) < 40 and (another(group[-1], k) or text) not in group:
                group.append(another(group[-1], k))
            group += [made for _, made in plain_exchanges(text, k)]
            for one, other in product(group[:9], repeat=2):
                self.assert_leads(one, other, k)

    def test_long_texts(self):
        for text in LONG:
            for k in (1, 2, 3, 5, 29):
                other = another(text, k)
                if other is None:
                    continue
                for one, last in ((text, other), (other, text), (text, "".join(sorted(text)) if k == 1 else text)):
                    texts = ways(one, last, k)
                    self.assertEqual((texts[0], texts[-1]), (one, last))
                    self.assertLessEqual(len(texts), len(text) - k + 2)
                    self.assertTrue(all(key_of(each, k) == key_of(text, k) for each in texts))


class WrongArgumentsTest(KindsCase):

    def wrong_texts(self):
        return some_of_each_kind() + list(WRONG_STRINGS) + ["$", "a$"]

    def wrong_numbers(self):
        wrong = [0, -1, -(10 ** 30), True, False, None, "1", 1.0, 2.5, [1], (1,), b"1", {1: 1}]
        return wrong + [each for each in some_of_each_kind() if not isinstance(each, int) or isinstance(each, bool)]

    def test_no_text(self):
        for wrong in self.wrong_texts():
            for function in (parts_of, alike_number, another, exchange):
                self.assert_raises(NoText, wrong, function, wrong, 1)
                self.assert_raises(NoText, wrong, function, wrong, 0)
            self.assert_raises(NoText, wrong, alone, wrong)
            for function in (alike, ways):
                self.assert_raises(NoText, wrong, function, wrong, "a", 1)
                self.assert_raises(NoText, wrong, function, "a", wrong, 1)
                self.assert_raises(NoText, wrong, function, "a", wrong, 0)
            self.assert_raises(NoText, wrong, parting, wrong, "a")
            self.assert_raises(NoText, wrong, parting, "a", wrong)

    def test_no_number(self):
        for wrong in self.wrong_numbers():
            for function in (parts_of, alike_number, another, exchange):
                for text in ("", "a", "banana"):
                    self.assert_raises(NoNumber, wrong, function, text, wrong)
            for function in (alike, ways):
                self.assert_raises(NoNumber, wrong, function, "a", "a", wrong)
                self.assert_raises(NoNumber, wrong, function, "ab", "a", wrong)

    def test_the_first_wrong_argument_counts(self):
        first = ["a"]
        for other in (None, "A", ["a"]):
            self.assert_raises(NoText, first, parting, first, other)
            for function in (alike, ways):
                self.assert_raises(NoText, first, function, first, other, 0)


if __name__ == "__main__":
    unittest.main()
