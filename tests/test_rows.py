"""Rows of texts, lists and rings: single ones, edges, sizes and wrong arguments."""

import unittest

from tests.kinds import KindsCase, WRONG_STRINGS, some_of_each_kind
from tests.plain import cut, mixed_word, plain_row, plain_steps, primitive_root, turns_of
from turnindex.errors import NoRow, NoText
from turnindex.rows import (
    is_of_list, is_of_ring, is_of_text, read_back, row_of, row_of_all, row_of_list, row_of_ring, step_back,
)

OF_ROWS = (step_back, read_back, is_of_text, is_of_list, is_of_ring)


class ExamplesTest(unittest.TestCase):

    def test_e01(self):
        self.assertEqual([row_of("banana"), read_back("annb$aa")], ["annb$aa", (("banana",), ())])

    def test_e02(self):
        told = [row_of_ring("ab"), read_back("ba"), read_back("aabb")]
        self.assertEqual(told, ["ba", ((), ("ab",)), ((), ("a", "a", "b", "b"))])

    def test_e03(self):
        self.assertEqual(row_of_list(("a", "", "a")), "a$a$$")


class RowOfTest(unittest.TestCase):

    def test_some_texts(self):
        for text, row in (
            ("a", "a$"), ("aa", "aa$"), ("ab", "b$a"), ("ba", "ab$"), ("abracadabra", "ard$rcaaaabb"),
            ("mississippi", "ipssm$pissii"), ("zaz", "zza$"),
        ):
            self.assertEqual(row_of(text), row)

    def test_the_empty_text(self):
        self.assertEqual(row_of(""), "$")

    def test_the_first_and_the_last_letter_of_the_alphabet(self):
        self.assertEqual(row_of("abcdefghijklmnopqrstuvwxyz"), "z$abcdefghijklmnopqrstuvwxy")

    def test_the_row_is_a_string(self):
        self.assertIs(row_of("banana").__class__, str)


class RowOfListTest(unittest.TestCase):

    def test_no_texts(self):
        self.assertEqual(row_of_list(()), "")
        self.assertIs(row_of_list(()).__class__, str)

    def test_one_text_is_as_alone(self):
        for text in ("", "a", "banana", "abab"):
            self.assertEqual(row_of_list((text,)), row_of(text))

    def test_empty_texts(self):
        self.assertEqual(row_of_list(("", "", "")), "$$$")

    def test_an_earlier_end_is_less(self):
        self.assertEqual(row_of_list(("a", "b")), "ab$$")
        self.assertEqual(row_of_list(("b", "a")), "ba$$")
        self.assertEqual(row_of_list(("ba", "a", "ca")), "aaab$c$$")
        self.assertEqual(row_of_list(("ca", "a", "ba")), "aaac$b$$")

    def test_equal_texts(self):
        self.assertEqual(row_of_list(("ab", "ab")), "bb$$aa")
        self.assertEqual(row_of_list(("a", "a", "a")), "aaa$$$")

    def test_more_texts_than_letters(self):
        texts = ("",) * 30 + ("a",) + ("",) * 30
        self.assertEqual(row_of_list(texts), "$" * 30 + "a" + "$" * 31)


class RowOfRingTest(unittest.TestCase):

    def test_some_rings(self):
        for word, row in (("a", "a"), ("aa", "aa"), ("aab", "baa"), ("aabb", "baba"), ("banana", "nnbaaa")):
            self.assertEqual(row_of_ring(word), row)

    def test_all_turns_have_one_row(self):
        for word in ("banana", "abab", "aabbab", "zyzx"):
            for turn in turns_of(word):
                self.assertEqual(row_of_ring(turn), row_of_ring(word))

    def test_powers_repeat_each_sign(self):
        for word in ("ab", "aab", "banana", "c"):
            for k in (2, 3, 5):
                self.assertEqual(row_of_ring(word * k), "".join(sign * k for sign in row_of_ring(word)))

    def test_endless_words_are_compared(self):
        # abaabaab.. is less than ababab.., and aba.. with an end behind it is less than both
        self.assertEqual(row_of_all(("aba",), ("ab", "aab")), plain_row(("aba",), ("ab", "aab")))
        self.assertEqual(read_back(row_of_all((), ("aabaab", "ab"))), ((), ("aab", "aab", "ab")))


class RowOfAllTest(unittest.TestCase):

    def test_without_texts_and_rings(self):
        self.assertEqual(row_of_all((), ()), "")

    def test_only_texts_or_only_rings(self):
        self.assertEqual(row_of_all(("ab", "", "ab"), ()), row_of_list(("ab", "", "ab")))
        self.assertEqual(row_of_all((), ("banana",)), row_of_ring("banana"))

    def test_an_end_is_less_than_a_ring_that_goes_on(self):
        self.assertEqual(row_of_all(("a",), ("a",)), "a$a")
        self.assertEqual(row_of_all(("aaaa",), ("a",)), "aaaa$a")
        self.assertEqual(row_of_all(("ab",), ("ab",)), "b$baa")

    def test_the_order_and_the_turns_of_the_rings_do_not_matter(self):
        row = row_of_all(("ab", "b"), ("aab", "ab", "abb"))
        self.assertEqual(row, row_of_all(("ab", "b"), ("bab", "ba", "aba")))
        self.assertEqual(row, row_of_all(("ab", "b"), ("ba", "baa", "bba")))

    def test_the_order_of_the_texts_matters(self):
        self.assertNotEqual(row_of_all(("a", "b"), ("c",)), row_of_all(("b", "a"), ("c",)))

    def test_powers_are_rings_several_times(self):
        self.assertEqual(row_of_all((), ("abab",)), row_of_all((), ("ab", "ba")))
        self.assertEqual(row_of_all(("b",), ("bababa",)), row_of_all(("b",), ("ab", "ba", "ab")))

    def test_long_agreeing_rings(self):
        # each two of them agree for nearly as many signs as both have together
        rings = ("a" * 40 + "b", "a" * 39 + "b", "a" * 40, "a" * 39 + "ba")
        self.assertEqual(row_of_all((), rings), plain_row((), rings))
        # these need nearly twice as many signs as they have, for the signs ahead to stand right
        for k in (3, 10, 40):
            for first, second in ("ab", "ba"):
                rings = (first + (first + second) * k + second, first + (first + second) * (k + 1) + second)
                self.assertEqual(row_of_all((), rings), plain_row((), rings))
        for words in (["b", "a"], ["a", "b"]):
            while len(words[-1]) < 80:
                words.append(words[-1] + words[-2])
            for k in range(3, len(words)):
                rings = (words[k], words[k - 1])
                self.assertEqual(row_of_all((), rings), plain_row((), rings))
                texts = (words[k] + words[k - 1],)
                self.assertEqual(row_of_all(texts, rings), plain_row(texts, rings))

    def test_powers_and_unlike_turns_are_read_as_least_primitive_rings(self):
        row = row_of_all(("ba", "", "ba"), ("baba", "c", "cba", "cc", "ba"))
        self.assertEqual(read_back(row), (("ba", "", "ba"), ("ab", "ab", "ab", "acb", "c", "c", "c")))


class StepBackTest(unittest.TestCase):

    def test_a_row_of_a_text(self):
        self.assertEqual(step_back("annb$aa"), (1, 5, 6, 4, None, 2, 3))

    def test_without_signs(self):
        self.assertEqual(step_back(""), ())

    def test_ends_alone(self):
        self.assertEqual(step_back("$$$"), (None, None, None))

    def test_without_ends(self):
        self.assertEqual(step_back("ba"), (1, 0))
        self.assertEqual(step_back("aabb"), (0, 1, 2, 3))
        self.assertEqual(step_back("zaz"), (1, 0, 2))

    def test_several_ends(self):
        self.assertEqual(step_back("a$a$$"), (3, None, 4, None, None))

    def test_the_result_is_a_tuple_of_integers_and_none(self):
        told = step_back("b$ab")
        self.assertIs(told.__class__, tuple)
        self.assertEqual([one.__class__ for one in told], [int, None.__class__, int, int])


class ReadBackTest(unittest.TestCase):

    def test_without_signs(self):
        self.assertEqual(read_back(""), ((), ()))

    def test_ends_alone(self):
        self.assertEqual(read_back("$"), (("",), ()))
        self.assertEqual(read_back("$$$"), (("", "", ""), ()))

    def test_text_j_is_read_from_place_j(self):
        self.assertEqual(read_back("a$a$$"), (("a", "", "a"), ()))
        self.assertEqual(read_back("ab$$"), (("a", "b"), ()))
        self.assertEqual(read_back("ba$$"), (("b", "a"), ()))

    def test_rings_beside_texts(self):
        self.assertEqual(read_back("$a"), (("",), ("a",)))
        self.assertEqual(read_back("$ba"), (("",), ("ab",)))
        self.assertEqual(read_back("$$bca"), (("", ""), ("acb",)))

    def test_rings_are_sorted_with_repetitions(self):
        self.assertEqual(read_back("bbaa"), ((), ("ab", "ab")))
        self.assertEqual(read_back("aacb"), ((), ("a", "a", "bc")))

    def test_the_result_is_made_of_tuples_and_strings(self):
        told = read_back("$ba")
        self.assertIs(told.__class__, tuple)
        self.assertEqual([one.__class__ for one in told], [tuple, tuple])
        self.assertEqual([word.__class__ for one in told for word in one], [str, str])


class IsOfTest(unittest.TestCase):

    def assert_told(self, row, of_text, of_list, of_ring):
        self.assertIs(is_of_text(row), of_text)
        self.assertIs(is_of_list(row), of_list)
        self.assertIs(is_of_ring(row), of_ring)

    def test_without_signs(self):
        self.assert_told("", False, True, False)

    def test_rows_of_texts(self):
        for text in ("", "a", "banana", "abab"):
            self.assert_told(row_of(text), True, True, False)

    def test_rows_of_lists(self):
        for texts in (("", ""), ("a", "a"), ("banana", "", "ab")):
            self.assert_told(row_of_list(texts), False, True, False)

    def test_rows_of_one_ring(self):
        for word in ("a", "aaa", "ab", "abab", "banana", "ccccb"):
            self.assert_told(row_of_ring(word), False, False, True)

    def test_rows_of_several_like_rings(self):
        self.assert_told(row_of_all((), ("ab", "ba", "baba")), False, False, True)

    def test_rows_of_unlike_rings(self):
        self.assert_told("ab", False, False, False)
        self.assert_told("aabb", False, False, False)
        self.assert_told(row_of_all((), ("ab", "aab")), False, False, False)
        self.assert_told(row_of_all((), ("a", "a", "ab")), False, False, False)

    def test_rows_with_ends_and_rings(self):
        self.assert_told("$a", False, False, False)
        self.assert_told("$ba", False, False, False)
        self.assert_told("$$ba", False, False, False)
        self.assert_told(row_of_all(("b",), ("ab", "ab")), False, False, False)


class SizesTest(unittest.TestCase):

    def assert_row(self, texts, rings):
        row = row_of_all(texts, rings)
        self.assertEqual(len(row), sum(map(len, texts)) + len(texts) + sum(map(len, rings)))
        roots = []
        for ring in rings:
            root, k = primitive_root(ring)
            roots += [min(turns_of(root))] * k
        self.assertEqual(read_back(row), (texts, tuple(sorted(roots))))
        return row

    def test_texts_of_300_letters(self):
        for text in ("a" * 300, "ab" * 150, "a" * 299 + "b", "b" + "a" * 299, "z" * 150 + "a" * 150,
                     mixed_word("ab", 300, 1), mixed_word("abcdefghijklmnopqrstuvwxyz", 300, 2)):
            self.assertEqual(self.assert_row((text,), ()), row_of(text))
            self.assertIs(is_of_text(row_of(text)), True)
        self.assertEqual(row_of("a" * 300), "a" * 300 + "$")
        text = mixed_word("ab", 300, 3)
        self.assertEqual(row_of(text), plain_row((text,), ()))

    def test_lists_of_50_texts(self):
        for texts in (("abcabc",) * 50, ("a",) * 50, ("",) * 50, ("",) * 49 + ("a" * 300,),
                      cut(mixed_word("ab", 300, 4), 50, 5), cut("a" * 300, 50, 6)):
            self.assertEqual(len(texts), 50)
            self.assertEqual(self.assert_row(texts, ()), row_of_list(texts))
            self.assertIs(is_of_list(row_of_list(texts)), True)
        texts = cut(mixed_word("abc", 300, 7), 50, 8)
        self.assertEqual(row_of_list(texts), plain_row(texts, ()))

    def test_rings_of_300_letters(self):
        for word in ("a" * 300, "ab" * 150, "a" * 299 + "b", mixed_word("ab", 300, 9), mixed_word("ab", 150, 10) * 2):
            self.assertEqual(self.assert_row((), (word,)), row_of_ring(word))
            self.assertIs(is_of_ring(row_of_ring(word)), True)
        self.assert_row((), ("a" * 149 + "b", "a" * 150))
        self.assert_row((), ("b",) * 300)
        word = mixed_word("ab", 300, 11)
        self.assertEqual(row_of_ring(word), plain_row((), (word,)))

    def test_texts_and_rings_of_300_letters(self):
        texts = cut(mixed_word("ab", 150, 12), 50, 13)
        rings = tuple(ring for ring in cut(mixed_word("ab", 150, 14), 20, 15) if ring)
        self.assertEqual(self.assert_row(texts, rings), plain_row(texts, rings))
        self.assert_row(("a" * 150,), ("a" * 150,))

    def test_rows_of_360_signs(self):
        for row in ("a" * 360, "$" * 360, "a" * 180 + "b" * 180, "b" * 180 + "a" * 180, "b" * 179 + "a" * 181,
                    "a" * 359 + "$", "$" + "ba" * 179 + "b", mixed_word("ab", 360, 16), mixed_word("$ab", 360, 17),
                    mixed_word("$" + "abcdef" * 2, 360, 18)):
            self.assertEqual(len(row), 360)
            texts, rings = read_back(row)
            self.assertEqual(row_of_all(texts, rings), row)
            self.assertEqual(step_back(row), plain_steps(row))
            self.assertIs(is_of_text(row), len(texts) == 1 and not rings)
            self.assertIs(is_of_list(row), not rings)
            self.assertIs(is_of_ring(row), not texts and len(set(rings)) == 1)


class WrongArgumentsTest(KindsCase):

    def test_no_text(self):
        for wrong in some_of_each_kind() + list(WRONG_STRINGS) + ["$", "a$", "banana$"]:
            self.assert_raises(NoText, wrong, row_of, wrong)
            self.assert_raises(NoText, wrong, row_of_ring, wrong)

    def test_a_ring_is_not_empty(self):
        self.assert_raises(NoText, "", row_of_ring, "")

    def test_no_tuple_of_texts(self):
        for wrong in some_of_each_kind() + list(WRONG_STRINGS) + ["", "a", "banana", "$"]:
            if not isinstance(wrong, tuple):
                self.assert_raises(NoText, wrong, row_of_list, wrong)
                self.assert_raises(NoText, wrong, row_of_all, wrong, ())
                self.assert_raises(NoText, wrong, row_of_all, (), wrong)

    def test_a_tuple_with_a_thing_that_is_no_text(self):
        for wrong in some_of_each_kind() + list(WRONG_STRINGS) + ["$", "a$"]:
            for texts in ((wrong,), ("a", wrong), (wrong, "a"), ("", wrong, "a"), ("", "ab", "b", wrong)):
                self.assert_raises(NoText, wrong, row_of_list, texts)
                self.assert_raises(NoText, wrong, row_of_all, texts, ())
            for rings in ((wrong,), ("a", wrong), (wrong, "a"), ("ab", "b", wrong)):
                self.assert_raises(NoText, wrong, row_of_all, (), rings)

    def test_a_tuple_with_an_empty_ring(self):
        self.assert_raises(NoText, "", row_of_all, (), ("",))
        self.assert_raises(NoText, "", row_of_all, ("a",), ("a", "b", ""))

    def test_the_first_wrong_thing_counts(self):
        first = ["a"]
        second = ["b"]
        self.assert_raises(NoText, first, row_of_list, ("a", first, second))
        self.assert_raises(NoText, first, row_of_list, (first, "$"))
        self.assert_raises(NoText, "A", row_of_list, ("a", "A", first))
        self.assert_raises(NoText, first, row_of_all, ("a", first, second), ())
        self.assert_raises(NoText, first, row_of_all, (), ("a", first, second))
        self.assert_raises(NoText, first, row_of_all, (), ("a", first, ""))
        self.assert_raises(NoText, "", row_of_all, (), ("a", "", first))

    def test_the_texts_are_looked_at_ahead_of_the_rings(self):
        first = ["a"]
        self.assert_raises(NoText, first, row_of_all, first, None)
        self.assert_raises(NoText, first, row_of_all, ("a", first), None)
        self.assert_raises(NoText, first, row_of_all, ("a", "b", first), ("", 5))
        self.assert_raises(NoText, "$", row_of_all, ("$",), ("",))

    def test_no_row(self):
        for function in OF_ROWS:
            for wrong in some_of_each_kind() + list(WRONG_STRINGS) + ["$A", "annb$aa ", "ab\n$"]:
                self.assert_raises(NoRow, wrong, function, wrong)

    def test_nothing_that_is_passed_is_changed(self):
        wrong = ["b", "a"]
        with self.assertRaises(NoText):
            row_of_list(wrong)
        self.assertEqual(wrong, ["b", "a"])


if __name__ == "__main__":
    unittest.main()
