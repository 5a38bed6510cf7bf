"""The orders of suffixes, and the texts that have them."""

import unittest
from collections import Counter, defaultdict
from itertools import permutations, product
from math import comb

from tests.kinds import KindsCase, WRONG_STRINGS, some_of_each_kind
from tests.plain import mixed_word, numbers_below, sorted_things, texts_up_to
from turnindex.errors import NoNumber, NoOrder, NoText
from turnindex.orders import drops, has_order, least_text, order_of, orders_number

ALPHABET = "abcdefghijklmnopqrstuvwxyz"
OF_ORDERS = (drops, least_text)
LONG = (
    "a" * 300, "ab" * 150, "ba" * 150, "abc" * 100, "a" * 299 + "b", "b" + "a" * 299, "z" * 150 + "a" * 150,
    mixed_word("ab", 300, 41), mixed_word(ALPHABET, 300, 42),
)


def plain_order(text):
    """The places of all suffixes in order, that of the empty one left out."""
    return tuple(place for _, _, _, place in sorted_things((text,), ()) if place < len(text))


def plain_drops(order):
    """The drops, with the order of the next suffixes taken as it is told."""
    later = {place: at for at, place in enumerate(order)}
    later[len(order)] = -1
    pairs = enumerate(zip(order, order[1:]))
    return [i for i, (one, other) in pairs if later[one + 1] > later[other + 1]]


def mixed_order(size, seed):
    """An order without a plain rule."""
    numbers = numbers_below(0, 10 ** 6, seed)
    keys = [next(numbers) for _ in range(size)]
    return tuple(sorted(range(size), key=lambda place: (keys[place], place)))


def zigzag_order(size):
    """The only order of so many places with a drop between any two of them."""
    ranks = []
    low, high = 0, size - 1
    while low <= high:
        ranks += [high, low] if low < high else [high]
        low += 1
        high -= 1
    # the ranks are told from the last place on
    return tuple(sorted(range(size), key=lambda place: ranks[size - 1 - place]))


class ExamplesTest(unittest.TestCase):

    def test_e07(self):
        o = order_of("banana")
        told = [o, drops(o), least_text(o), orders_number(o, 3), orders_number(o, 4)]
        self.assertEqual(told, [(5, 3, 1, 0, 4, 2), [2, 3], "bacaca", 1, 7])


class OrderOfTest(unittest.TestCase):

    def test_some_texts(self):
        for text, order in (
            ("", ()), ("a", (0,)), ("aaa", (2, 1, 0)), ("abc", (0, 1, 2)), ("cba", (2, 1, 0)), ("aba", (2, 0, 1)),
            ("abab", (2, 0, 3, 1)), ("zaz", (1, 2, 0)),
        ):
            self.assertEqual(order_of(text), order)

    def test_the_result_is_a_tuple_of_integers(self):
        self.assertIs(order_of("").__class__, tuple)
        self.assertIs(order_of("banana").__class__, tuple)
        self.assertEqual({place.__class__ for place in order_of("banana")}, {int})

    def test_all_suffixes_stand_in_order(self):
        for text in texts_up_to("ab", 8) + texts_up_to("abc", 5) + texts_up_to("adz", 4):
            order = order_of(text)
            self.assertEqual(order, plain_order(text))
            suffixes = [text[place:] + "$" for place in order]
            self.assertTrue(all(one < other for one, other in zip(suffixes, suffixes[1:])))
            self.assertEqual(sorted(order), list(range(len(text))))


class DropsTest(unittest.TestCase):

    def test_some_orders(self):
        for order, dropped in (
            ((), []), ((0,), []), ((0, 1), [0]), ((1, 0), []), ((2, 1, 0), []), ((0, 1, 2), [1]),
            ((2, 0, 1), [1]), ((1, 0, 2), [0, 1]), ((0, 2, 1), [0]), ((1, 2, 0), [0]),
        ):
            self.assertEqual(drops(order), dropped)

    def test_the_result_is_a_new_list(self):
        order = (5, 3, 1, 0, 4, 2)
        drops(order).append(9)
        self.assertEqual(drops(order), [2, 3])
        self.assertIs(drops(()).__class__, list)

    def test_all_small_orders(self):
        for size in range(8):
            for order in permutations(range(size)):
                self.assertEqual(drops(order), plain_drops(order))

    def test_rising_and_falling_orders(self):
        for size in (2, 3, 5, 26, 27, 100):
            self.assertEqual(drops(tuple(range(size))), [size - 2])
            self.assertEqual(drops(tuple(reversed(range(size)))), [])

    def test_orders_with_drops_everywhere(self):
        for size in (1, 2, 3, 4, 26, 27, 100):
            self.assertEqual(drops(zigzag_order(size)), list(range(size - 1)))

    def test_as_many_orders_have_d_drops_as_have_d_falls(self):
        for size in range(8):
            with_drops = Counter()
            with_falls = Counter()
            for order in permutations(range(size)):
                with_drops[len(drops(order))] += 1
                with_falls[sum(one > other for one, other in zip(order, order[1:]))] += 1
            self.assertEqual(with_drops, with_falls)


class LeastTextTest(unittest.TestCase):

    def test_some_orders(self):
        for order, text in (
            ((), ""), ((0,), "a"), ((1, 0), "aa"), ((0, 1), "ab"), ((2, 1, 0), "aaa"), ((0, 1, 2), "aab"),
            ((2, 0, 1), "aba"), ((1, 0, 2), "bac"), ((0, 2, 1), "abb"), ((1, 2, 0), "bab"),
        ):
            self.assertEqual(least_text(order), text)

    def test_25_drops_take_all_letters_and_26_more(self):
        self.assertEqual(sorted(least_text(zigzag_order(26))), list(ALPHABET))
        self.assertEqual(least_text(zigzag_order(26))[-4:], "byaz")
        for size in (27, 28, 60, 300):
            self.assertIsNone(least_text(zigzag_order(size)))
        # the same drops, and no more of them, in longer orders
        order = order_of(least_text(zigzag_order(26)) + "z" * 20)
        self.assertEqual(len(drops(order)), 25)
        self.assertEqual(least_text(order), least_text(zigzag_order(26)) + "z" * 20)

    def test_least_text_has_the_order(self):
        for size in range(7):
            for order in permutations(range(size)):
                self.assertEqual(order_of(least_text(order)), order)


class AllTextsTest(unittest.TestCase):

    def test_each_order_has_so_many_texts_and_this_least_one(self):
        for size, most in ((0, 26), (1, 26), (2, 26), (3, 12), (4, 7), (5, 6), (6, 4), (7, 3)):
            for letters in range(most + 1):
                having = defaultdict(list)
                for word in product(ALPHABET[:letters], repeat=size):
                    having[order_of("".join(word))].append("".join(word))
                for order in permutations(range(size)):
                    self.assertEqual(orders_number(order, letters), len(having[order]))
                    if having[order]:
                        self.assertEqual(least_text(order), having[order][0])


class OrdersNumberTest(unittest.TestCase):

    def test_the_empty_order(self):
        for letters in range(27):
            self.assertEqual(orders_number((), letters), 1)

    def test_no_letters(self):
        for order in ((0,), (1, 0), (0, 1), (2, 0, 1), tuple(range(40)), tuple(reversed(range(300)))):
            self.assertEqual(orders_number(order, 0), 0)

    def test_all_letters(self):
        self.assertEqual(orders_number((0,), 26), 26)
        self.assertEqual(orders_number((1, 0), 26), 26 * 27 // 2)
        self.assertEqual(orders_number((0, 1), 26), 26 * 25 // 2)

    def test_letters_around_the_drops(self):
        order = (5, 3, 1, 0, 4, 2)
        self.assertEqual([orders_number(order, letters) for letters in range(5)], [0, 0, 0, 1, 7])
        self.assertEqual(orders_number(zigzag_order(26), 26), 1)
        self.assertEqual(orders_number(zigzag_order(26), 25), 0)
        self.assertEqual(orders_number(zigzag_order(25), 26), 26)

    def test_orders_with_more_drops_than_letters_have_no_text(self):
        for size in (27, 28, 52, 53, 54, 300):
            self.assertEqual(orders_number(zigzag_order(size), 26), 0)

    def test_the_numbers_of_all_orders_come_to_all_texts(self):
        for size in range(7):
            for letters in (0, 1, 2, 5, 25, 26):
                total = sum(orders_number(order, letters) for order in permutations(range(size)))
                self.assertEqual(total, letters ** size)

    def test_the_result_is_an_integer(self):
        for letters in (0, 1, 26):
            for order in ((), (0,), (0, 1), tuple(range(30))):
                self.assertIs(orders_number(order, letters).__class__, int)


class HasOrderTest(unittest.TestCase):

    def test_some(self):
        self.assertIs(has_order("banana", (5, 3, 1, 0, 4, 2)), True)
        self.assertIs(has_order("bacaca", (5, 3, 1, 0, 4, 2)), True)
        self.assertIs(has_order("banana", (5, 3, 1, 0, 2, 4)), False)

    def test_the_empty_text_and_the_empty_order(self):
        self.assertIs(has_order("", ()), True)
        self.assertIs(has_order("a", ()), False)
        self.assertIs(has_order("", (0,)), False)

    def test_unlike_lengths(self):
        self.assertIs(has_order("banana", (4, 3, 1, 0, 2)), False)
        self.assertIs(has_order("aa", (2, 1, 0)), False)
        self.assertIs(has_order("aaa", (1, 0)), False)

    def test_each_small_text_has_just_its_own(self):
        for text in texts_up_to("abc", 5):
            for order in permutations(range(len(text))):
                self.assertIs(has_order(text, order), order == plain_order(text))


class SizesTest(unittest.TestCase):

    def test_texts_of_300_letters(self):
        for text in LONG:
            order = order_of(text)
            self.assertEqual(order, plain_order(text))
            self.assertIs(has_order(text, order), True)
            self.assertIs(has_order(text, order[1:] + order[:1]), False)
            self.assertEqual(drops(order), plain_drops(order))
            self.assertEqual(order_of(least_text(order)), order)
            self.assertLessEqual(least_text(order), text)
            self.assertGreater(orders_number(order, 26), 0)

    def test_rising_and_falling_orders_of_300_places(self):
        rising = tuple(range(300))
        falling = rising[::-1]
        self.assertEqual(drops(rising), [298])
        self.assertEqual(drops(falling), [])
        self.assertEqual(least_text(rising), "a" * 299 + "b")
        self.assertEqual(least_text(falling), "a" * 300)
        self.assertEqual(orders_number(rising, 1), 0)
        self.assertEqual(orders_number(rising, 26), comb(324, 300))
        self.assertEqual(orders_number(falling, 1), 1)
        self.assertEqual(orders_number(falling, 26), comb(325, 300))
        self.assertIs(has_order("a" * 300, falling), True)
        self.assertIs(has_order("a" * 300, rising), False)

    def test_mixed_orders_of_300_places(self):
        for seed in (43, 44, 45):
            order = mixed_order(300, seed)
            self.assertEqual(sorted(order), list(range(300)))
            self.assertEqual(drops(order), plain_drops(order))
            self.assertIsNone(least_text(order))
            self.assertEqual(orders_number(order, 26), 0)
            self.assertIs(has_order(LONG[8], order), False)


class WrongArgumentsTest(KindsCase):

    def wrong_orders(self):
        wrong = [one for one in some_of_each_kind() if one.__class__ is not tuple or one]
        wrong += ["", "a", "ab", "$", [0], [0, 1], [1, 0], {0: 0}, {0}, range(2), b"\x00"]
        wrong += [
            (1,), (-1,), (0, 0), (1, 1), (0, 2), (1, 2), (0, 1, 1), (0, 1, 3), (-1, 0), (0, 1, -1), (2, 1),
            (0, 1, 2, 3, 5), (10 ** 30,), (0, 10 ** 30), (-(10 ** 30), 0), tuple(range(1, 301)),
            tuple(range(299)) + (298,), (False,), (False, True), (0, True), (1, False), (True, 0), (0.0,),
            (0, 1.0), (0, "1"), ("0",), (None,), (0, None), ((0,),), (0, (1,)), ([0],), (0, [1]), (0, b"a"),
        ]
        wrong += [(one,) for one in some_of_each_kind() if one.__class__ is not int or one != 0]
        wrong += [(0, one) for one in some_of_each_kind() if one.__class__ is not int or one != 1]
        return wrong

    def test_no_order(self):
        for wrong in self.wrong_orders():
            for function in OF_ORDERS:
                self.assert_raises(NoOrder, wrong, function, wrong)
            self.assert_raises(NoOrder, wrong, orders_number, wrong, 3)
            self.assert_raises(NoOrder, wrong, has_order, "ab", wrong)

    def test_no_text(self):
        for wrong in some_of_each_kind() + list(WRONG_STRINGS) + ["$", "a$"]:
            self.assert_raises(NoText, wrong, order_of, wrong)
            self.assert_raises(NoText, wrong, has_order, wrong, (0,))

    def test_no_number_of_letters(self):
        for wrong in some_of_each_kind() + ["", "1", "a", "abc", 27, 28, 300, 10 ** 30, -1, -5]:
            if wrong.__class__ is not int or not 0 <= wrong <= 26:
                for order in ((), (0,), (5, 3, 1, 0, 4, 2), tuple(range(300))):
                    self.assert_raises(NoNumber, wrong, orders_number, order, wrong)

    def test_the_first_wrong_argument_counts(self):
        for wrong in ([0], (1,), (0, True), None):
            self.assert_raises(NoOrder, wrong, orders_number, wrong, -1)
            self.assert_raises(NoOrder, wrong, orders_number, wrong, None)
        for wrong in ("A", None, ["a"], "$"):
            self.assert_raises(NoText, wrong, has_order, wrong, [0])
            self.assert_raises(NoText, wrong, has_order, wrong, None)
        self.assert_raises(NoOrder, (0, 2), has_order, "a", (0, 2))

    def test_nothing_that_is_passed_is_changed(self):
        wrong = [1, 0]
        with self.assertRaises(NoOrder):
            drops(wrong)
        self.assertEqual(wrong, [1, 0])


if __name__ == "__main__":
    unittest.main()
