"""What the common beginnings of neighbours tell of a text, against going through all its parts."""

import unittest
from itertools import product

from tests.kinds import KindsCase, WRONG_STRINGS, some_of_each_kind
from tests.plain import mixed_word, parts_of_text, places_of, sorted_things, texts_up_to
from turnindex.errors import NoText
from turnindex.neighbours import (
    commons, longest_repeat, parts_by_length, parts_number, repeats, shortest_alone, statistics,
)

ALPHABET = "abcdefghijklmnopqrstuvwxyz"
OF_TEXTS = (commons, parts_number, parts_by_length, repeats, longest_repeat, shortest_alone)
SMALL = texts_up_to("ab", 8) + texts_up_to("abc", 5) + ["banana", "mississippi", "abracadabra", "zyzzyzy"]
LONG = (
    "a" * 300, "ab" * 150, "ba" * 150, "abc" * 100, "abcde" * 60, "a" * 299 + "b", "b" + "a" * 299,
    "z" * 150 + "a" * 150, mixed_word("ab", 300, 81), mixed_word(ALPHABET, 300, 82),
)


def common(one, other):
    """The length of the longest common beginning."""
    return max(k for k in range(min(len(one), len(other)) + 1) if one[:k] == other[:k])


def plain_commons(text):
    suffixes = [text[place:] for _, _, _, place in sorted_things((text,), ())]
    return [common(one, other) for one, other in zip(suffixes, suffixes[1:])]


def is_repeat(part, text):
    """Whether the part stands twice, with no letter that is ahead everywhere and none that is behind."""
    places = places_of(part, text)
    ahead = {text[i - 1] if i > 0 else None for i in places}
    behind = {text[i + len(part)] if i + len(part) < len(text) else None for i in places}
    return part != "" and len(places) > 1 and len(ahead) > 1 and len(behind) > 1


def plain_statistics(text, other):
    told = []
    for place in range(len(other)):
        length = max(k for k in range(len(other) - place + 1) if other[place:place + k] in text)
        told.append((length, places_of(other[place:place + length], text)[0]))
    return told


class ExamplesTest(unittest.TestCase):

    def test_e11(self):
        told = [commons("banana"), parts_number("banana"), longest_repeat("banana")]
        self.assertEqual(told, [[0, 1, 3, 0, 0, 2], 16, "ana"])


class CommonsTest(unittest.TestCase):

    def test_some_texts(self):
        for text, sizes in (("", []), ("a", [0]), ("aaa", [0, 1, 2]), ("ab", [0, 0]), ("abab", [0, 2, 0, 1])):
            self.assertEqual(commons(text), sizes)

    def test_each_small_text(self):
        for text in SMALL:
            self.assertEqual(commons(text), plain_commons(text))
            self.assertEqual(len(commons(text)), len(text))
            self.assertIs(commons(text).__class__, list)

    def test_long_texts(self):
        for text in LONG:
            self.assertEqual(commons(text), plain_commons(text))


class PartsTest(unittest.TestCase):

    def test_some_texts(self):
        for text, numbers in (
            ("", [1]), ("a", [1, 1]), ("aaa", [1, 1, 1, 1]), ("abc", [1, 3, 2, 1]), ("banana", [1, 3, 3, 3, 3, 2, 1]),
        ):
            self.assertEqual(parts_by_length(text), numbers)
            self.assertEqual(parts_number(text), sum(numbers))

    def test_each_small_text(self):
        for text in SMALL:
            parts = parts_of_text(text)
            self.assertEqual(parts_number(text), len(parts))
            numbers = [sum(len(part) == length for part in parts) for length in range(len(text) + 1)]
            self.assertEqual(parts_by_length(text), numbers)

    def test_long_texts(self):
        for text in LONG:
            numbers = [len({text[i:i + k] for i in range(301 - k)}) for k in range(301)]
            self.assertEqual(parts_by_length(text), numbers)
            self.assertEqual(parts_number(text), sum(numbers))
        self.assertEqual(parts_number("a" * 300), 301)

    def test_kinds_of_the_results(self):
        for text in ("", "banana"):
            self.assertIs(parts_number(text).__class__, int)
            self.assertIs(parts_by_length(text).__class__, list)


class RepeatsTest(unittest.TestCase):

    def test_some_texts(self):
        for text, found in (
            ("", []), ("a", []), ("abc", []), ("aa", ["a"]), ("aaa", ["a", "aa"]), ("abab", ["ab"]),
            ("banana", ["a", "ana"]), ("xabyabz", ["ab"]), ("aab", ["a"]), ("abcabc", ["abc"]),
        ):
            self.assertEqual(repeats(text), found)
            self.assertIs(repeats(text).__class__, list)

    def test_each_small_text(self):
        for text in SMALL:
            self.assertEqual(repeats(text), [part for part in parts_of_text(text) if is_repeat(part, text)])

    def test_there_are_fewer_than_letters(self):
        for text in SMALL + list(LONG):
            self.assertLessEqual(len(repeats(text)), max(0, len(text) - 1))
        self.assertEqual(len(repeats("a" * 300)), 299)

    def test_long_texts(self):
        for text in LONG:
            # each repeat is a common beginning of two suffixes, so these are all that may be ones
            order = [place for _, _, _, place in sorted_things((text,), ())][1:]
            parts = {text[place:place + size] for place, size in zip(order, plain_commons(text))}
            self.assertEqual(repeats(text), sorted(part for part in parts if is_repeat(part, text)))
        self.assertEqual(repeats("ab" * 150), sorted("ab" * k for k in range(1, 150)))


class LongestRepeatTest(unittest.TestCase):

    def test_some_texts(self):
        for text, longest in (
            ("", ""), ("a", ""), ("abc", ""), ("aa", "a"), ("bcbcxaa", "bc"), ("baab", "a"), ("zzyy", "y"),
            ("cdcdxabab", "ab"), ("mississippi", "issi"),
        ):
            self.assertEqual(longest_repeat(text), longest)

    def test_each_small_text(self):
        for text in SMALL:
            # what stands twice and is longest can go on neither ahead nor behind
            twice = [part for part in parts_of_text(text) if part and len(places_of(part, text)) > 1]
            self.assertEqual(longest_repeat(text), min(twice, key=lambda part: (-len(part), part), default=""))

    def test_long_texts(self):
        self.assertEqual(longest_repeat("a" * 300), "a" * 299)
        self.assertEqual(longest_repeat("ab" * 150), "ab" * 149)
        self.assertEqual(longest_repeat("abc" * 100), "abc" * 99)
        for text in LONG:
            size = max(plain_commons(text))
            parts = [text[i:i + size] for i in range(301 - size)]
            self.assertEqual(longest_repeat(text), min(part for part in parts if parts.count(part) > 1))


class ShortestAloneTest(unittest.TestCase):

    def test_some_texts(self):
        for text, part in (
            ("a", "a"), ("aa", "aa"), ("aaa", "aaa"), ("ba", "a"), ("banana", "b"), ("abab", "ba"), ("aabb", "aa"),
            ("zaza", "az"), ("abcabc", "ca"),
        ):
            self.assertEqual(shortest_alone(text), part)

    def test_the_empty_text_has_none(self):
        self.assertIsNone(shortest_alone(""))

    def test_each_small_text(self):
        for text in filter(None, SMALL):
            once = [part for part in parts_of_text(text) if part and len(places_of(part, text)) == 1]
            self.assertEqual(shortest_alone(text), min(once, key=lambda part: (len(part), part)))

    def test_long_texts(self):
        self.assertEqual(shortest_alone("a" * 300), "a" * 300)
        self.assertEqual(shortest_alone("a" * 299 + "b"), "b")
        for text in LONG:
            for size in range(1, 301):
                parts = [text[i:i + size] for i in range(301 - size)]
                once = [part for part in parts if parts.count(part) == 1]
                if once:
                    self.assertEqual(shortest_alone(text), min(once))
                    break


class StatisticsTest(unittest.TestCase):

    def test_some_texts(self):
        for text, other, told in (
            ("banana", "xanab", [(0, 0), (3, 1), (2, 2), (1, 1), (1, 0)]),
            ("banana", "", []), ("", "ab", [(0, 0), (0, 0)]), ("", "", []), ("ab", "ab", [(2, 0), (1, 1)]),
            ("abab", "bab", [(3, 1), (2, 0), (1, 1)]), ("a", "aaa", [(1, 0), (1, 0), (1, 0)]),
        ):
            self.assertEqual(statistics(text, other), told)
            self.assertIs(statistics(text, other).__class__, list)

    def test_each_two_small_texts(self):
        for words in (texts_up_to("ab", 4), texts_up_to("abc", 3)):
            for text, other in product(words, repeat=2):
                self.assertEqual(statistics(text, other), plain_statistics(text, other))

    def test_from_one_place_to_the_next_the_length_is_less_by_one_at_most(self):
        for text, other in product(SMALL[::29], SMALL[::31]):
            lengths = [length for length, _ in statistics(text, other)]
            self.assertTrue(all(after >= ahead - 1 for ahead, after in zip(lengths, lengths[1:])))

    def test_long_texts(self):
        for text, other in product(LONG, LONG[:4] + LONG[8:]):
            told = statistics(text, other)
            self.assertEqual(len(told), 300)
            for place, (length, at) in enumerate(told):
                part = other[place:place + length]
                self.assertEqual(text.index(part), at)
                self.assertFalse(place + length < 300 and other[place:place + length + 1] in text)
        self.assertEqual(statistics("a" * 300, "a" * 300), [(300 - k, 0) for k in range(300)])


class WrongArgumentsTest(KindsCase):

    def wrong_texts(self):
        return some_of_each_kind() + list(WRONG_STRINGS) + ["$", "a$", "annb$aa"]

    def test_no_text(self):
        for wrong in self.wrong_texts():
            for function in OF_TEXTS:
                self.assert_raises(NoText, wrong, function, wrong)
            self.assert_raises(NoText, wrong, statistics, wrong, "a")
            self.assert_raises(NoText, wrong, statistics, "a", wrong)
            self.assert_raises(NoText, wrong, statistics, "", wrong)

    def test_the_first_wrong_argument_counts(self):
        first = ["a"]
        for other in (None, "A", ["a"], ("a",)):
            self.assert_raises(NoText, first, statistics, first, other)


if __name__ == "__main__":
    unittest.main()
