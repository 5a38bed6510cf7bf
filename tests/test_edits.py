"""Rows with a letter more or less ahead of the text, and the orders of two texts, against those themselves."""

import unittest
from itertools import combinations, product

from tests.kinds import KindsCase, WRONG_STRINGS, some_of_each_kind
from tests.plain import all_rows, mixed_word, plain_row, suffixes_in_order, texts_up_to
from turnindex.edits import least_moves, put_ahead, stays, take_ahead, turned
from turnindex.errors import NoRow, NoText
from turnindex.rows import is_of_text, row_of

ALPHABET = "abcdefghijklmnopqrstuvwxyz"
LONG = (
    "a" * 100, "ab" * 50, "ba" * 50, "aab" * 33 + "a", "a" * 99 + "b", "b" + "a" * 99, "a" * 50 + "b" * 50,
    "b" * 50 + "a" * 50, mixed_word("ab", 100, 1), mixed_word(ALPHABET, 100, 2), "abc" * 33 + "z",
)


def whole_order(text):
    """The places of all suffixes in their order, the empty one too."""
    return [place for _, place in suffixes_in_order((text,))]


def pairs_of_one_size(letters, most):
    for size in range(most + 1):
        words = list(map("".join, product(letters, repeat=size)))
        yield from product(words, repeat=2)


def plain_turned(one, other):
    order, others = whole_order(one), whole_order(other)
    pairs = combinations(range(len(one) + 1), 2)
    return [
        (i, k) for i, k in pairs if (order.index(i) < order.index(k)) != (others.index(i) < others.index(k))
    ]


def plain_stays(one, other):
    """The least tuple of the most places that stand in both orders one behind the other, by trying all."""
    order, others = whole_order(one), whole_order(other)
    for many in reversed(range(len(order) + 1)):
        shown = [
            places for places in combinations(order, many)
            if all(others.index(i) < others.index(k) for i, k in zip(places, places[1:]))
        ]
        if shown:
            return min(shown)
    return None


def longest_both(one, other):
    """How many places two orders have one behind the other in common, as common parts of words are found."""
    sizes = [0] * (len(other) + 1)
    for place in one:
        ahead = sizes[:]
        for at, each in enumerate(other):
            sizes[at + 1] = ahead[at] + 1 if place == each else max(sizes[at], ahead[at + 1])
    return sizes[-1]


class ExamplesTest(unittest.TestCase):

    def test_e16(self):
        told = [put_ahead("b$a", "b"), take_ahead("bba$"), turned("ab", "ba")]
        self.assertEqual(told, ["bba$", ("b", "b$a"), [(0, 1)]])


class AheadTest(unittest.TestCase):

    def test_some_rows(self):
        for row, letter, longer in (
            ("$", "a", "a$"), ("$", "z", "z$"), ("a$", "a", "aa$"), ("a$", "b", "ab$"), ("b$", "a", "b$a"),
            ("annb$aa", "b", "annbb$aa"),
        ):
            self.assertEqual(take_ahead(longer), (letter, row))
            self.assertEqual(put_ahead(row, letter), longer)

    def test_all_small_texts(self):
        for text in texts_up_to("ac", 8) + texts_up_to("abc", 5):
            row = plain_row((text,), ())
            for letter in "abcz":
                longer = put_ahead(row, letter)
                self.assertEqual(longer, plain_row((letter + text,), ()))
                self.assertEqual(take_ahead(longer), (letter, row))
            if text != "":
                letter, shorter = take_ahead(row)
                self.assertEqual((letter, shorter), (text[0], plain_row((text[1:],), ())))
                self.assertEqual(put_ahead(shorter, letter), row)

    def test_they_change_one_sign_and_put_in_or_take_out_one(self):
        for text in texts_up_to("ab", 7):
            row = row_of(text)
            for letter in "abc":
                longer = put_ahead(row, letter)
                whole = row.index("$")
                changed = row[:whole] + letter + row[whole + 1:]
                self.assertIn(longer, [changed[:at] + "$" + changed[at:] for at in range(len(row) + 1)])

    def test_a_text_read_letter_by_letter(self):
        for text in LONG + (mixed_word("abc", 299, 3), "a" * 299):
            row = "$"
            for letter in reversed(text):
                row = put_ahead(row, letter)
            self.assertEqual(row, row_of(text))
            letters = []
            while row != "$":
                letter, row = take_ahead(row)
                letters.append(letter)
            self.assertEqual("".join(letters), text)

    def test_kinds_of_the_results(self):
        self.assertIs(put_ahead("$", "a").__class__, str)
        self.assertIs(take_ahead("a$").__class__, tuple)


class TurnedTest(unittest.TestCase):

    def test_some_texts(self):
        for one, other, pairs in (
            ("", "", []), ("a", "a", []), ("a", "z", []), ("ab", "ba", [(0, 1)]), ("ab", "aa", [(0, 1)]),
            ("ba", "aa", []), ("abc", "cba", [(0, 1), (0, 2), (1, 2)]), ("banana", "banana", []),
            ("aba", "bab", [(0, 1), (1, 2)]),
        ):
            self.assertEqual(turned(one, other), pairs)
            self.assertIs(turned(one, other).__class__, list)

    def test_all_small_texts(self):
        for one, other in list(pairs_of_one_size("ab", 5)) + list(pairs_of_one_size("abc", 3)):
            self.assertEqual(turned(one, other), plain_turned(one, other))

    def test_long_texts(self):
        for one, other in product(LONG, LONG[:6] + LONG[9:]):
            pairs = turned(one, other)
            ranks = [sorted(range(101), key=lambda place: text[place:]) for text in (one, other)]
            places = [[order.index(place) for place in range(101)] for order in ranks]
            self.assertEqual(pairs, [
                (i, k) for i, k in combinations(range(101), 2)
                if (places[0][i] < places[0][k]) != (places[1][i] < places[1][k])
            ])
        self.assertEqual(turned("a" * 99 + "b", "a" * 100), list(combinations(range(100), 2)))


class StaysTest(unittest.TestCase):

    def test_some_texts(self):
        for one, other, places in (
            ("", "", (0,)), ("a", "b", (1, 0)), ("ab", "ba", (2, 0)), ("ab", "ab", (2, 0, 1)), ("abc", "cba", (3, 0)),
            ("banana", "banana", (6, 5, 3, 1, 0, 4, 2)), ("aab", "aaa", (3, 0)), ("aaa", "aab", (3, 0)),
            ("abab", "baba", (4, 2, 0)),
        ):
            self.assertEqual(stays(one, other), places)
            self.assertEqual(least_moves(one, other), len(one) + 1 - len(places))
            self.assertEqual([stays(one, other).__class__, least_moves(one, other).__class__], [tuple, int])

    def test_all_small_texts(self):
        for one, other in list(pairs_of_one_size("ab", 5)) + list(pairs_of_one_size("abc", 3)):
            places = plain_stays(one, other)
            self.assertEqual(stays(one, other), places)
            self.assertEqual(least_moves(one, other), len(one) + 1 - len(places))

    def test_texts_of_more_letters(self):
        for seed in range(12):
            one, other = mixed_word("abcdef", 8, seed), mixed_word("abcdef", 8, seed + 50)
            self.assertEqual(stays(one, other), plain_stays(one, other))

    def test_moves_taken_one_by_one(self):
        # from each order all that come of one move, up to the other order
        for one, other in list(pairs_of_one_size("ab", 4)):
            wanted = tuple(whole_order(other))
            reached = {tuple(whole_order(one))}
            moves = 0
            while wanted not in reached:
                reached = {after for order in reached for after in moved(order)}
                moves += 1
            self.assertEqual(least_moves(one, other), moves)

    def test_no_pairs_are_turned_just_if_all_stay(self):
        for one, other in pairs_of_one_size("abc", 3):
            self.assertEqual(turned(one, other) == [], least_moves(one, other) == 0)

    def test_long_texts(self):
        for one, other in product(LONG, LONG):
            order, others = whole_order(one), whole_order(other)
            places = stays(one, other)
            self.assertEqual(len(places), longest_both(order, others))
            self.assertEqual(least_moves(one, other), 101 - len(places))
            for each in (order, others):
                at = [each.index(place) for place in places]
                self.assertEqual(at, sorted(at))
        self.assertEqual(stays("a" * 99 + "b", "a" * 100), (100, 0))
        self.assertEqual(stays("a" * 100, "b" * 100), tuple(reversed(range(101))))
        self.assertEqual(least_moves("a" * 99 + "b", "a" * 100), 99)


def moved(order):
    """All orders that come of taking out one suffix and putting it in anew."""
    for at in range(len(order)):
        rest = order[:at] + order[at + 1:]
        for place in range(len(rest) + 1):
            yield rest[:place] + order[at:at + 1] + rest[place:]


class WrongArgumentsTest(KindsCase):

    def wrong_rows(self):
        rows = [row for row in all_rows("$ab", 4) if not is_of_text(row)]
        return some_of_each_kind() + list(WRONG_STRINGS) + rows + ["banana", "annb$aaz", "$A"]

    def wrong_texts(self):
        return some_of_each_kind() + list(WRONG_STRINGS) + ["$", "a$"]

    def test_no_row_of_a_text(self):
        for wrong in self.wrong_rows():
            self.assert_raises(NoRow, wrong, put_ahead, wrong, "a")
            self.assert_raises(NoRow, wrong, put_ahead, wrong, None)
            self.assert_raises(NoRow, wrong, take_ahead, wrong)

    def test_the_text_without_a_letter(self):
        self.assert_raises(NoRow, "$", take_ahead, "$")
        self.assertEqual(put_ahead("$", "b"), "b$")

    def test_no_letter(self):
        for wrong in self.wrong_texts() + ["", "ab", "aa", "banana"]:
            for row in ("$", "b$a", "annb$aa"):
                self.assert_raises(NoText, wrong, put_ahead, row, wrong)

    def test_no_text(self):
        for wrong in self.wrong_texts():
            for function in (turned, least_moves, stays):
                self.assert_raises(NoText, wrong, function, wrong, "a")
                self.assert_raises(NoText, wrong, function, wrong, ["a"])
                self.assert_raises(NoText, wrong, function, "a", wrong)
                self.assert_raises(NoText, wrong, function, "", wrong)

    def test_texts_of_unlike_lengths(self):
        for one, other in (("", "a"), ("a", ""), ("a", "ab"), ("ab", "a"), ("banana", "banan"), ("ab", "")):
            for function in (turned, least_moves, stays):
                self.assert_raises(NoText, other, function, one, other)


if __name__ == "__main__":
    unittest.main()
