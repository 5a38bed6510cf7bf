"""Merged rows with their marks and rounds, against all suffixes and against doing the rounds by their words."""

import unittest
from itertools import product

from tests.kinds import KindsCase, WRONG_STRINGS, some_of_each_kind
from tests.plain import all_rows, cut, mixed_word, plain_row, suffixes_in_order, texts_up_to
from turnindex.errors import NoMarks, NoRow, NoText
from turnindex.merging import agreeing, merge, part
from turnindex.rows import is_of_list, row_of_list

ALPHABET = "abcdefghijklmnopqrstuvwxyz"


def lists_up_to(letters, most, size):
    """All tuples of at most so many texts with at most so many letters in all."""
    texts = texts_up_to(letters, size)
    lists = [made for many in range(most + 1) for made in product(texts, repeat=many)]
    return [made for made in lists if sum(map(len, made)) <= size]


SMALL = lists_up_to("ab", 2, 3) + lists_up_to("ab", 3, 1)
SMALL += [("ba", "", "b"), ("cab", "bc"), ("banana", "an")]
LONG = (
    ("a" * 100,), ("b" * 100,), ("ab" * 50,), ("ba" * 50,), ("abc" * 33 + "a",), ("a" * 50, "a" * 50),
    ("",) * 50, ("a",) * 50, ("ab",) * 50, ("a" * 99 + "b",), ("b" + "a" * 99,), (mixed_word("ab", 100, 1),),
    (mixed_word(ALPHABET, 100, 2),), cut(mixed_word("ab", 100, 3), 50, 4), cut(mixed_word("abc", 100, 5), 9, 6),
)


def plain_merge(texts, others):
    """The row, the marks and the rounds, each by the words of the document."""
    together = texts + others
    marks = tuple(0 if number < len(texts) else 1 for number, _ in suffixes_in_order(together))
    return plain_row(together, ()), marks, plain_rounds(texts, others)


def plain_rounds(texts, others):
    """How many rounds change something."""
    together = texts + others
    order = suffixes_in_order(texts)
    order += [(number + len(texts), place) for number, place in suffixes_in_order(others)]
    rounds = 0
    while True:
        ranks = {each: rank for rank, each in enumerate(order)}
        keys = {}
        for number, place in order:
            if place < len(together[number]):
                keys[number, place] = (together[number][place], ranks[number, place + 1])
            else:
                keys[number, place] = ("$", number)
        changed = sorted(order, key=lambda each: keys[each])
        if changed == order:
            return rounds
        rounds += 1
        order = changed


def plain_agreeing(texts, others):
    """The longest common beginning of two suffixes of which that of the others is less."""
    order = suffixes_in_order(texts + others)
    shown = []
    for at, (number, place) in enumerate(order):
        for ahead, start in order[:at]:
            if number < len(texts) <= ahead:
                one, other = texts[number][place:], others[ahead - len(texts)][start:]
                size = max(k for k in range(min(len(one), len(other)) + 1) if one[:k] == other[:k])
                shown.append((-size, one[:size], (number, place), (ahead - len(texts), start)))
    return min(shown)[1:] if shown else None


class ExamplesTest(unittest.TestCase):

    def test_e15(self):
        told = [merge("b$a", "a$"), agreeing(("ab",), ("a",))]
        self.assertEqual(told, [("ba$$a", (0, 1, 1, 0, 0), 2), ("a", (0, 0), (0, 0))])


class MergeTest(unittest.TestCase):

    def test_some_rows(self):
        for one, other, told in (
            ("", "", ("", (), 0)), ("$", "", ("$", (0,), 0)), ("", "$", ("$", (1,), 0)), ("$", "$", ("$$", (0, 1), 0)),
            ("a$", "", ("a$", (0, 0), 0)), ("", "a$", ("a$", (1, 1), 0)), ("a$", "$", ("a$$", (0, 1, 0), 1)),
            ("$", "a$", ("$a$", (0, 1, 1), 0)), ("a$", "b$", ("ab$$", (0, 1, 0, 1), 1)),
            ("b$", "a$", ("ba$$", (0, 1, 1, 0), 1)), ("a$", "a$", ("aa$$", (0, 1, 0, 1), 1)),
        ):
            self.assertEqual(merge(one, other), told)

    def test_each_two_small_lists(self):
        for texts, others in product(SMALL, repeat=2):
            told = merge(row_of_list(texts), row_of_list(others))
            self.assertEqual(told, plain_merge(texts, others))
            self.assertEqual(told[0], row_of_list(texts + others))

    def test_rows_merged_with_themselves(self):
        for texts in SMALL:
            row = row_of_list(texts)
            self.assertEqual(merge(row, row), plain_merge(texts, texts))
            longest = max([len(text) for text in texts], default=-1)
            # of a suffix and the same one of the others the first is less, so some shorter one shows it
            self.assertLessEqual(merge(row, row)[2], longest + 1)

    def test_marks_of_one_side_alone(self):
        for texts in SMALL:
            row = row_of_list(texts)
            self.assertEqual(merge(row, ""), (row, (0,) * len(row), 0))
            self.assertEqual(merge("", row), (row, (1,) * len(row), 0))

    def test_kinds_of_the_results(self):
        for one, other in (("", ""), ("b$a", "a$")):
            row, marks, rounds = merge(one, other)
            self.assertEqual([each.__class__ for each in (row, marks, rounds)], [str, tuple, int])
            self.assertEqual({mark.__class__ for mark in marks} | {int}, {int})


class AgreeingTest(unittest.TestCase):

    def test_some_lists(self):
        for texts, others, told in (
            ((), (), None), (("",), ("",), None), (("a",), (), None), ((), ("a",), None), (("",), ("ab",), None),
            (("a",), ("",), ("", (0, 0), (0, 0))), (("b",), ("a",), ("", (0, 0), (0, 0))),
            (("a",), ("a",), ("", (0, 0), (0, 1))), (("ab",), ("aa",), ("a", (0, 0), (0, 0))),
            (("x", "ab", "ab"), ("", "aa", "aa"), ("a", (1, 0), (1, 0))),
            (("abab",), ("aba",), ("aba", (0, 0), (0, 0))),
        ):
            self.assertEqual(agreeing(texts, others), told)

    def test_each_two_small_lists(self):
        for texts, others in product(SMALL, repeat=2):
            told = agreeing(texts, others)
            self.assertEqual(told, plain_agreeing(texts, others))
            rounds = 0 if told is None else len(told[0]) + 1
            self.assertEqual(merge(row_of_list(texts), row_of_list(others))[2], rounds)


class PartTest(unittest.TestCase):

    def test_some_rows(self):
        for row, marks, told in (
            ("", (), ("", "")), ("$", (0,), ("$", "")), ("$", (1,), ("", "$")),
            ("ba$$a", (0, 1, 1, 0, 0), ("b$a", "a$")),
            ("aa$$", (0, 1, 0, 1), ("a$", "a$")), ("$$", (0, 1), ("$", "$")), ("$$", (0, 0), ("$$", "")),
        ):
            self.assertEqual(part(row, marks), told)

    def test_what_is_merged_can_be_parted(self):
        for texts, others in product(SMALL[::2], SMALL[::3]):
            one, other = row_of_list(texts), row_of_list(others)
            row, marks, _ = merge(one, other)
            self.assertEqual(part(row, marks), (one, other))

    def test_all_marks_of_small_rows(self):
        checked = 0
        for row in all_rows("$ab", 5) + all_rows("$a", 7):
            if not is_of_list(row):
                continue
            right = 0
            for marks in product((0, 1), repeat=len(row)):
                try:
                    one, other = part(row, marks)
                except NoMarks as error:
                    self.assertIs(error.marks, marks)
                else:
                    self.assertEqual(merge(one, other)[:2], (row, marks))
                    right += 1
            self.assertEqual(right, row.count("$") + 1)
            checked += 1
        self.assertGreater(checked, 100)

    def test_all_marks_that_two_rows_give(self):
        rows = [row for row in all_rows("$ab", 4) if is_of_list(row)]
        told = {}
        for one, other in product(rows, repeat=2):
            if len(one + other) <= 4:
                row, marks, _ = merge(one, other)
                told.setdefault(row, {})[marks] = (one, other)
        for row in rows:
            self.assertEqual(len(told[row]), row.count("$") + 1)
            for marks, parts in told[row].items():
                self.assertEqual(part(row, marks), parts)


class SizesTest(unittest.TestCase):

    def test_two_lists_of_100_letters(self):
        for texts, others in product(LONG, LONG):
            one, other = row_of_list(texts), row_of_list(others)
            row, marks, rounds = merge(one, other)
            self.assertEqual(row, row_of_list(texts + others))
            told = agreeing(texts, others)
            self.assertEqual(rounds, 0 if told is None else len(told[0]) + 1)
            self.assertEqual("".join(sign for sign, mark in zip(row, marks) if mark == 0), one)
            self.assertEqual("".join(sign for sign, mark in zip(row, marks) if mark == 1), other)

    def test_against_the_words_of_the_document(self):
        for texts, others in ((LONG[0], LONG[0]), (LONG[5], LONG[0]), (LONG[2], LONG[3]), (LONG[13], LONG[14])):
            self.assertEqual(merge(row_of_list(texts), row_of_list(others)), plain_merge(texts, others))
            self.assertEqual(agreeing(texts, others), plain_agreeing(texts, others))

    def test_equal_letters(self):
        row = "a" * 100 + "$"
        self.assertEqual(merge(row, row), ("a" * 200 + "$$", (0, 1) * 101, 100))
        self.assertEqual(agreeing(("a" * 100,), ("a" * 100,)), ("a" * 99, (0, 0), (0, 1)))
        self.assertEqual(merge("$" * 50, "$" * 50), ("$" * 100, (0,) * 50 + (1,) * 50, 0))
        told = ("a" * 50 + "$" * 100, (0,) * 50 + (1,) * 50 + (0,) * 50, 1)
        self.assertEqual(merge("a" * 50 + "$" * 50, "$" * 50), told)

    def test_long_rows_are_parted(self):
        for texts in LONG[5:9] + LONG[13:]:
            row = row_of_list(texts)
            for many in range(0, len(texts) + 1, 7):
                one, other = row_of_list(texts[:many]), row_of_list(texts[many:])
                marks = merge(one, other)[1]
                self.assertEqual(part(row, marks), (one, other))
                if texts[-1] != "":
                    # the last place is not that of an end, so no other text comes of the other row
                    with self.assertRaises(NoMarks):
                        part(row, marks[:-1] + (1 - marks[-1],))


class WrongArgumentsTest(KindsCase):

    def wrong_rows(self):
        # the row of a ring of two letters, and of rings beside one text or two
        rings = ["a", "ab", "ba", "$a", "$$a", "a$$b", "annb$aa" + "z", "banana"]
        return some_of_each_kind() + list(WRONG_STRINGS) + ["$A", "a $"] + rings

    def test_no_row(self):
        for wrong in self.wrong_rows():
            self.assert_raises(NoRow, wrong, merge, wrong, "a$")
            self.assert_raises(NoRow, wrong, merge, "a$", wrong)
            self.assert_raises(NoRow, wrong, part, wrong, (0, 0))
            self.assert_raises(NoRow, wrong, part, wrong, None)

    def test_the_first_wrong_row_counts(self):
        for first in self.wrong_rows():
            for other in (None, "ab", ["$"], "A"):
                self.assert_raises(NoRow, first, merge, first, other)

    def test_no_texts(self):
        for wrong in some_of_each_kind() + ["", "a", "$", ["a", "b"]]:
            if not isinstance(wrong, tuple):
                self.assert_raises(NoText, wrong, agreeing, wrong, ("a",))
                self.assert_raises(NoText, wrong, agreeing, ("a",), wrong)
                self.assert_raises(NoText, wrong, agreeing, wrong, None)

    def test_a_thing_that_is_no_text(self):
        for wrong in some_of_each_kind() + list(WRONG_STRINGS) + ["$", "a$"]:
            for texts in ((wrong,), ("a", wrong), ("", wrong, None, "A")):
                self.assert_raises(NoText, wrong, agreeing, texts, ("a",))
                self.assert_raises(NoText, wrong, agreeing, (), texts)
                self.assert_raises(NoText, wrong, agreeing, texts, None)

    def test_no_marks(self):
        row = "ba$$a"
        for wrong in some_of_each_kind() + [
            "01100", [0, 1, 1, 0, 0], (), (0, 1, 1, 0), (0, 1, 1, 0, 0, 0), (0, 1, 2, 0, 0), (0, 1, -1, 0, 0),
            (False, True, True, False, False), (0, 1, True, 0, 0), (0.0, 1, 1, 0, 0), (0, 1, 1, 0, None),
            ("0", 1, 1, 0, 0),
            (0, 1, 1, 0, 1), (1, 0, 0, 1, 1), (0, 1, 0, 1, 0), (0, 0, 0, 0, 1), (1, 1, 0, 1, 1),
        ]:
            self.assert_raises(NoMarks, wrong, part, row, wrong)

    def test_the_marks_of_the_row_without_signs(self):
        self.assertEqual(part("", ()), ("", ""))
        for wrong in ((0,), (1,), [], None, "", 0):
            self.assert_raises(NoMarks, wrong, part, "", wrong)
        for wrong in ((False,), (2,), (0, 0), ()):
            self.assert_raises(NoMarks, wrong, part, "$", wrong)


if __name__ == "__main__":
    unittest.main()
