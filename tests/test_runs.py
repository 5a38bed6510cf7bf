"""The runs of rows and rings, and the index that keeps the order at runs only."""

import copy
import unittest
from itertools import groupby, product

from tests.kinds import KindsCase, WRONG_STRINGS, some_of_each_kind
from tests.plain import (
    all_rows, mixed_word, parts_of_text, places_of, plain_row, sorted_things, texts_up_to, turns_of,
)
from turnindex.errors import NoNumber, NoRow, NoText
from turnindex.indexes import Index
from turnindex.runs import RunIndex, reaches, ring_runs, runs

ALPHABET = "abcdefghijklmnopqrstuvwxyz"
SMALL = texts_up_to("ab", 7) + texts_up_to("abc", 5) + ["banana", "mississippi", "abracadabra", "zyzzy"]
LONG = (
    "a" * 300, "ab" * 150, "ba" * 150, "abc" * 100, "abcde" * 60, "a" * 299 + "b", "b" + "a" * 299,
    "z" * 150 + "a" * 150, mixed_word("ab", 300, 71), mixed_word(ALPHABET, 300, 72),
)


def plain_runs(row):
    return tuple((sign, len(list(signs))) for sign, signs in groupby(row))


def plain_ring_runs(word):
    """The fewest runs of all turns of a word."""
    return min([len(plain_runs(turn)) for turn in turns_of(word)], default=0)


def order_and_row(text):
    """The places of all suffixes in their order, and the row."""
    order = [place for _, _, _, place in sorted_things((text,), ())]
    return order, "".join("$" if place == 0 else text[place - 1] for place in order)


def at_runs(row):
    """The places of a row at which a run begins, and those at which one ends."""
    begins = [at for at in range(len(row)) if at == 0 or row[at - 1] != row[at]]
    ends = [at for at in range(len(row)) if at == len(row) - 1 or row[at + 1] != row[at]]
    return begins, ends


def plain_kept(text):
    order, row = order_and_row(text)
    begins, ends = at_runs(row)
    return sorted({order[at] - 1 for at in begins + ends if row[at] != "$"})


class ExamplesTest(unittest.TestCase):

    def test_e10(self):
        told = [runs("annb$aa"), ring_runs("aabba")]
        self.assertEqual(told, [(("a", 1), ("n", 2), ("b", 1), ("$", 1), ("a", 2)), 2])


class RunsTest(unittest.TestCase):

    def test_some_rows(self):
        for row, told in (
            ("", ()), ("$", (("$", 1),)), ("a", (("a", 1),)), ("aaa", (("a", 3),)), ("$$a", (("$", 2), ("a", 1))),
            ("aba", (("a", 1), ("b", 1), ("a", 1))),
        ):
            self.assertEqual(runs(row), told)

    def test_each_small_row(self):
        for row in all_rows("$ab", 7) + all_rows("a$", 9):
            self.assertEqual(runs(row), plain_runs(row))

    def test_the_result_is_a_tuple_of_tuples(self):
        for row in ("", "a", "annb$aa"):
            self.assertIs(runs(row).__class__, tuple)
            self.assertTrue(all(run.__class__ is tuple for run in runs(row)))

    def test_rows_of_360_signs(self):
        for row in ("a" * 360, "$" * 360, "ab" * 180, mixed_word("$ab", 360, 73)):
            self.assertEqual(runs(row), plain_runs(row))


class RingRunsTest(unittest.TestCase):

    def test_some_words(self):
        for word, many in (
            ("", 0), ("a", 1), ("aaaa", 1), ("ab", 2), ("aba", 2), ("abab", 4), ("abc", 3), ("abca", 3), ("aabbaa", 2),
        ):
            self.assertEqual(ring_runs(word), many)

    def test_each_small_word(self):
        for word in texts_up_to("ab", 9) + texts_up_to("abc", 6):
            self.assertEqual(ring_runs(word), plain_ring_runs(word))
            self.assertIs(ring_runs(word).__class__, int)

    def test_long_words(self):
        for word in LONG:
            self.assertEqual(ring_runs(word), plain_ring_runs(word))


class ReachesTest(unittest.TestCase):

    def test_some_words(self):
        for word, told in (("a", False), ("ab", False), ("aabb", True), ("aaaa", False), ("abab", False)):
            self.assertIs(reaches(word), told)

    def test_powers_have_as_many_runs_in_the_row_as_the_word(self):
        # the ring itself has more of them, so it reaches the bound only if it is not a power
        for word in ("aabb", "aabbaabb", "aabb" * 30):
            self.assertIs(reaches(word), word == "aabb")

    def test_all_turns_are_alike(self):
        for word in ("aabb", "aaabbb", "abacab", "aabab"):
            self.assertEqual(len({reaches(turn) for turn in turns_of(word)}), 1)

    def test_each_small_word(self):
        found = set()
        for word in filter(None, texts_up_to("ab", 9) + texts_up_to("abc", 6)):
            many = len(plain_runs(plain_row((), (word,))))
            self.assertLessEqual(many, 2 * plain_ring_runs(word))
            self.assertIs(reaches(word), many == 2 * plain_ring_runs(word))
            found.add(reaches(word))
        self.assertEqual(found, {False, True})

    def test_long_words(self):
        for word in LONG:
            many = len(plain_runs(plain_row((), (word,))))
            self.assertLessEqual(many, 2 * ring_runs(word))
            self.assertIs(reaches(word), many == 2 * ring_runs(word))


class RunIndexTest(unittest.TestCase):

    def test_a_text(self):
        index = RunIndex("banana")
        self.assertEqual(index.size(), 5)
        self.assertEqual([index.ahead(place) for place in range(7)], [1, 3, 4, 5, 0, 6, None])
        self.assertEqual(index.kept(), [0, 1, 2, 3, 4, 5])
        self.assertEqual([index.locate("a"), index.locate("an"), index.locate("na")], [[1, 3, 5], [1, 3], [2, 4]])
        self.assertEqual([index.touched("a"), index.touched("na"), index.touched("banana")], [1, 2, 0])

    def test_the_empty_text(self):
        index = RunIndex("")
        self.assertEqual([index.size(), index.ahead(0), index.kept()], [1, None, []])
        self.assertEqual([index.locate("a"), index.touched("a")], [[], None])

    def test_one_letter(self):
        index = RunIndex("k")
        self.assertEqual([index.size(), index.ahead(0), index.ahead(1), index.kept()], [2, 1, None, [0]])
        self.assertEqual([index.locate("k"), index.locate("kk"), index.locate("a")], [[0], [], []])
        self.assertEqual([index.touched("k"), index.touched("kk")], [0, None])

    def test_equal_letters(self):
        index = RunIndex("aaaaa")
        self.assertEqual(index.size(), 2)
        self.assertEqual(index.kept(), [0, 4])
        self.assertEqual(index.locate("a"), [0, 1, 2, 3, 4])
        self.assertEqual([index.touched("a"), index.touched("aaa")], [0, 0])

    def test_the_least_touched_place_is_not_the_first_place(self):
        # in this text some parts stand first at a place that no kept one lies within
        later = [
            (text, part) for text in SMALL for part in parts_of_text(text)[1:]
            if RunIndex(text).touched(part) != places_of(part, text)[0]
        ]
        self.assertNotEqual(later, [])

    def test_size_and_kept_of_each_small_text(self):
        for text in SMALL:
            index = RunIndex(text)
            self.assertEqual(index.size(), len(plain_runs(order_and_row(text)[1])))
            self.assertEqual(index.kept(), plain_kept(text))

    def test_ahead_of_all_places(self):
        for text in SMALL:
            index = RunIndex(text)
            order, row = order_and_row(text)
            plain_ahead = dict(zip(order, [None] + order))
            self.assertEqual({place: index.ahead(place) for place in range(len(text) + 1)}, plain_ahead)
            self.assertIsNone(index.ahead(len(text)))
            beginning = [order[at] for at in at_runs(row)[0]]
            for place in range(len(text)):
                j = max(other for other in beginning if other <= place)
                self.assertEqual(index.ahead(place), index.ahead(j) + place - j)

    def test_locate_of_all_patterns(self):
        for text in SMALL:
            index = RunIndex(text)
            order = order_and_row(text)[0]
            patterns = texts_up_to("abc", 3)[1:] + texts_up_to("ab", 4)[1:] + parts_of_text(text)[1:]
            for pattern in patterns + ["z", "az", "za", text + "a", "b" + text]:
                found = [place for place in reversed(order) if text[place:].startswith(pattern)]
                self.assertEqual(index.locate(pattern), found)

    def test_touched_of_all_parts(self):
        for text in SMALL:
            index = RunIndex(text)
            kept = plain_kept(text)
            for part in parts_of_text(text)[1:]:
                places = [i for i in places_of(part, text) if any(i <= k < i + len(part) for k in kept)]
                self.assertEqual(index.touched(part), places[0])
            for part in ["z", "az", "za", text + "a", "b" + text]:
                if part not in text:
                    self.assertIsNone(index.touched(part))

    def test_nothing_else_of_the_order_is_kept(self):
        for text in LONG[:5]:
            index = RunIndex(text)
            self.assertLessEqual(self.integers_in(vars(index)), 4 * index.size() + 2)

    def integers_in(self, value):
        """How many integers a value holds; a long string would hold an order as well."""
        if isinstance(value, dict):
            return sum(map(self.integers_in, list(value.values()) + list(value)))
        if isinstance(value, (list, tuple, set)):
            return sum(map(self.integers_in, value))
        return 1 if isinstance(value, int) else 0

    def test_nothing_changes_the_object(self):
        index = RunIndex("banana")
        values = copy.deepcopy(vars(index))
        index.kept().append(9)
        index.locate("an").append(9)
        index.touched("na")
        index.ahead(3)
        index.size()
        self.assertEqual(vars(index), values)
        self.assertEqual([index.kept(), index.locate("an")], [[0, 1, 2, 3, 4, 5], [1, 3]])

    def test_kinds_of_the_results(self):
        for text in ("", "banana"):
            index = RunIndex(text)
            self.assertIs(index.size().__class__, int)
            self.assertIs(index.kept().__class__, list)
            self.assertIs(index.locate("a").__class__, list)


class EqualTest(unittest.TestCase):

    def test_equal_just_if_made_of_equal_texts(self):
        for one, other in product(texts_up_to("ab", 4) + ["ac", "c", "zz"], repeat=2):
            self.assertIs(RunIndex(one) == RunIndex(other), one == other)
            self.assertIs(RunIndex(one) != RunIndex(other), one != other)

    def test_objects_of_other_kinds(self):
        for other in (("a",), "a", None, 0, Index(("a",)), RunIndex):
            self.assertIs(RunIndex("a") == other, False)
            self.assertIs(RunIndex("a") != other, True)


class SizesTest(unittest.TestCase):

    def test_texts_of_300_letters(self):
        for text in LONG:
            index = RunIndex(text)
            order, row = order_and_row(text)
            self.assertEqual(index.size(), len(plain_runs(row)))
            self.assertEqual(index.kept(), plain_kept(text))
            self.assertEqual([index.ahead(place) for place in order], [None] + order[:-1])
            patterns = ["a", "ab", "ba", "z", "aab", text, text[150:], text[:150], text[100:110]]
            for pattern in patterns + [text + "a", "b" + text]:
                found = [place for place in reversed(order) if text[place:].startswith(pattern)]
                self.assertEqual(index.locate(pattern), found)
                kept = index.kept()
                touched = [i for i in sorted(found) if any(i <= k < i + len(pattern) for k in kept)]
                self.assertEqual(index.touched(pattern), touched[0] if touched else None)
                self.assertEqual(bool(touched), bool(found))

    def test_runs_are_few_for_a_word_again_and_again(self):
        self.assertEqual(RunIndex("a" * 300).size(), 2)
        self.assertEqual(RunIndex("ab" * 150).size(), 3)
        self.assertEqual(RunIndex("abc" * 100).size(), 4)


class WrongArgumentsTest(KindsCase):

    def wrong_texts(self):
        return some_of_each_kind() + list(WRONG_STRINGS) + ["$", "a$"]

    def test_no_row(self):
        for wrong in some_of_each_kind() + list(WRONG_STRINGS) + ["$A", "a b"]:
            self.assert_raises(NoRow, wrong, runs, wrong)

    def test_no_text(self):
        for wrong in self.wrong_texts():
            for function in (ring_runs, reaches, RunIndex):
                self.assert_raises(NoText, wrong, function, wrong)

    def test_a_ring_that_reaches_is_not_empty(self):
        self.assert_raises(NoText, "", reaches, "")

    def test_no_pattern_and_no_part(self):
        for text in ("", "banana"):
            index = RunIndex(text)
            for wrong in self.wrong_texts() + [""]:
                self.assert_raises(NoText, wrong, index.locate, wrong)
                self.assert_raises(NoText, wrong, index.touched, wrong)

    def test_no_place(self):
        for text in ("", "a", "banana"):
            index = RunIndex(text)
            numbers = [-1, -2, len(text) + 1, len(text) + 2, 10 ** 30, -(10 ** 30)]
            for wrong in numbers + some_of_each_kind() + ["", "0", "a"]:
                if wrong.__class__ is not int or not 0 <= wrong <= len(text):
                    self.assert_raises(NoNumber, wrong, index.ahead, wrong)


if __name__ == "__main__":
    unittest.main()
