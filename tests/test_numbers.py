"""The numbers of texts, lists, rows and rings, against going through them."""

import unittest
from collections import Counter
from itertools import product
from math import comb, factorial, gcd

from tests.kinds import KindsCase, WRONG_STRINGS, some_of_each_kind
from tests.plain import is_primitive, tally, texts_up_to, turns_of
from turnindex.errors import NoCounts, NoNumber
from turnindex.numbers import lists_number, rings_number, rows_number, texts_number, turns_number

OF_COUNTS = (texts_number, rings_number, turns_number)
OF_BOTH = (lists_number, rows_number)
NO_LETTERS = ({}, {"a": 0}, {"z": 0, "a": 0, "m": 0})


def counts_up_to(letters, most):
    """All counts of these letters with at most so many in all."""
    return [
        dict(zip(letters, sizes))
        for sizes in product(range(most + 1), repeat=len(letters)) if sum(sizes) <= most
    ]


def key_of(counts):
    return tuple(sorted((letter, many) for letter, many in counts.items() if many))


class ExamplesTest(unittest.TestCase):

    def test_e04(self):
        c = {"a": 2, "b": 2}
        told = [texts_number(c), rings_number(c), turns_number(c), lists_number({"a": 1}, 2)]
        self.assertEqual(told, [6, 1, 2, 2])


class CountingTest(unittest.TestCase):

    def test_texts(self):
        for letters, most in (("abc", 6), ("ab", 9), ("adz", 4)):
            found = Counter(map(tally, texts_up_to(letters, most)))
            for counts in counts_up_to(letters, most):
                self.assertEqual(texts_number(counts), found[key_of(counts)])

    def test_rings(self):
        for letters, most in (("abc", 7), ("ab", 12)):
            words = texts_up_to(letters, most)[1:]
            least = [word for word in words if word == min(turns_of(word))]
            turns = Counter(map(tally, least))
            rings = Counter(tally(word) for word in least if is_primitive(word))
            for counts in counts_up_to(letters, most):
                self.assertEqual(turns_number(counts), turns[key_of(counts)])
                self.assertEqual(rings_number(counts), rings[key_of(counts)])

    def test_lists(self):
        for letters, most, most_texts in (("ab", 4, 3), ("abc", 3, 3), ("a", 4, 5)):
            words = texts_up_to(letters, most)
            for m in range(most_texts + 1):
                found = Counter()
                for texts in product(words, repeat=m):
                    if sum(map(len, texts)) <= most:
                        found[tally("".join(texts))] += 1
                for counts in counts_up_to(letters, most):
                    self.assertEqual(lists_number(counts, m), found[key_of(counts)])

    def test_rows(self):
        for letters, most in (("ab", 8), ("abc", 6)):
            found = Counter(map(tally, texts_up_to("$" + letters, most)))
            for counts in counts_up_to(letters, most):
                for m in range(most + 1 - sum(counts.values())):
                    self.assertEqual(rows_number(counts, m), found[key_of({**counts, "$": m})])


class EdgesTest(unittest.TestCase):

    def test_without_letters(self):
        for counts in NO_LETTERS:
            self.assertEqual(texts_number(counts), 1)
            self.assertEqual(rings_number(counts), 0)
            self.assertEqual(turns_number(counts), 0)
            for m in (0, 1, 2, 1000):
                self.assertEqual(lists_number(counts, m), 1)
                self.assertEqual(rows_number(counts, m), 1)

    def test_no_list_holds_letters_without_texts(self):
        for counts in ({"a": 1}, {"a": 2, "b": 1}, {"z": 300}):
            self.assertEqual(lists_number(counts, 0), 0)

    def test_rows_without_ends(self):
        for counts in ({"a": 1}, {"a": 2, "b": 1}, {"z": 300}):
            self.assertEqual(rows_number(counts, 0), texts_number(counts))

    def test_one_text_is_one_list(self):
        for counts in ({}, {"a": 1}, {"a": 2, "b": 1}, {"z": 300}):
            self.assertEqual(lists_number(counts, 1), texts_number(counts))

    def test_letters_that_are_not_there_do_not_count(self):
        bare = {"a": 2, "c": 4}
        full = {"b": 0, "c": 4, "z": 0, "a": 2}
        for function in OF_COUNTS:
            self.assertEqual(function(bare), function(full))
        for function in OF_BOTH:
            self.assertEqual(function(bare, 3), function(full, 3))

    def test_one_sort_of_letters(self):
        for many in (1, 2, 7, 300):
            self.assertEqual(texts_number({"k": many}), 1)
            self.assertEqual(turns_number({"k": many}), 1)
            self.assertEqual(rings_number({"k": many}), 1 if many == 1 else 0)

    def test_all_are_integers(self):
        for function in OF_COUNTS:
            for counts in NO_LETTERS + ({"a": 3, "b": 3},):
                self.assertIs(function(counts).__class__, int)
        for function in OF_BOTH:
            for counts in NO_LETTERS + ({"a": 3, "b": 3},):
                self.assertIs(function(counts, 0).__class__, int)
                self.assertIs(function(counts, 2).__class__, int)


class SizesTest(unittest.TestCase):

    def test_two_letters_with_a_total_of_300(self):
        counts = {"a": 150, "b": 150}
        self.assertEqual(texts_number(counts), comb(300, 150))
        self.assertEqual(lists_number(counts, 1000), comb(300, 150) * comb(1299, 300))
        self.assertEqual(rows_number(counts, 1000), comb(300, 150) * comb(1300, 300))
        # a word is the same after k steps if it is the same after gcd(300, k) of them
        steps = [gcd(300, k) for k in range(1, 301)]
        alike = sum(comb(step, step // 2) for step in steps if step % 2 == 0)
        self.assertEqual(300 * turns_number(counts), alike)

    def test_one_letter_apart(self):
        # with a letter that stands once, no turn of a word is the word again
        counts = {"a": 299, "b": 1}
        self.assertEqual([texts_number(counts), rings_number(counts), turns_number(counts)], [300, 1, 1])
        counts = {"a": 149, "b": 150, "c": 1}
        self.assertEqual(300 * rings_number(counts), texts_number(counts))
        self.assertEqual(turns_number(counts), rings_number(counts))

    def test_all_letters_with_a_total_of_300(self):
        letters = "abcdefghijklmnopqrstuvwxyz"
        counts = {letter: 11 for letter in letters}
        counts["q"] = 25
        self.assertEqual(sum(counts.values()), 300)
        texts = factorial(300) // factorial(11) ** 25 // factorial(25)
        self.assertEqual(texts_number(counts), texts)
        self.assertEqual(lists_number(counts, 50), texts * comb(349, 49))
        self.assertEqual(rows_number(counts, 50), texts * comb(350, 50))
        self.assertEqual(300 * rings_number(counts), texts)
        self.assertEqual(rings_number(counts), turns_number(counts))

    def test_turns_are_primitive_rings_some_times(self):
        for counts in ({"a": 240, "b": 60}, {"a": 288}, {"a": 60, "b": 120, "c": 120}, {"a": 128, "b": 128}):
            common = gcd(*counts.values())
            parts = [k for k in range(1, common + 1) if common % k == 0]
            shares = [{letter: many // k for letter, many in counts.items()} for k in parts]
            self.assertEqual(turns_number(counts), sum(map(rings_number, shares)))
            words = sum(rings_number(share) * sum(share.values()) for share in shares)
            self.assertEqual(texts_number(counts), words)

    def test_all_rings_of_two_letters_of_one_length(self):
        # among 2 ** 31 words all but two are primitive, since 31 is a prime
        rings = sum(rings_number({"a": k, "b": 31 - k}) for k in range(32))
        turns = sum(turns_number({"a": k, "b": 31 - k}) for k in range(32))
        self.assertEqual(rings, (2 ** 31 - 2) // 31)
        self.assertEqual(turns, rings + 2)


class WrongArgumentsTest(KindsCase):

    def wrong_counts(self):
        objects = some_of_each_kind()
        wrong = [one for one in objects if not isinstance(one, dict)] + ["", "a", "$"]
        for key in objects + list(WRONG_STRINGS) + ["", "ab", "aa", "$", "a$"]:
            try:
                wrong.append({key: 1})
                wrong.append({"a": 1, key: 0})
            except TypeError:
                continue
        for many in objects + ["", "1", "a"]:
            if many.__class__ is not int or many < 0:
                wrong += [{"a": many}, {"a": 1, "b": many}, {"b": many, "a": 1}]
        return wrong

    def test_no_counts(self):
        wrong_counts = self.wrong_counts()
        self.assertGreater(len(wrong_counts), 200)
        for wrong in wrong_counts:
            for function in OF_COUNTS:
                self.assert_raises(NoCounts, wrong, function, wrong)
            for function in OF_BOTH:
                self.assert_raises(NoCounts, wrong, function, wrong, 1)

    def test_the_total_is_at_most_300(self):
        for wrong in ({"a": 301}, {"a": 300, "b": 1}, {"a": 0, "z": 301}, {"a": 10 ** 30},
                      {"a": 150, "b": 150, "c": 1}, {"a": -1, "b": 301}, {"a": -1, "b": 5}, {"b": 5, "a": -5}):
            for function in OF_COUNTS:
                self.assert_raises(NoCounts, wrong, function, wrong)
            for function in OF_BOTH:
                self.assert_raises(NoCounts, wrong, function, wrong, 1)
        for right in ({"a": 300}, {"a": 299, "b": 1}, {"a": 0, "z": 300}):
            for function in OF_COUNTS:
                function(right)
            for function in OF_BOTH:
                function(right, 1)

    def test_no_number(self):
        for wrong in some_of_each_kind() + ["", "1", "a"]:
            if wrong.__class__ is not int or wrong < 0:
                for function in OF_BOTH:
                    for counts in ({"a": 1}, {}, {"a": 300}):
                        self.assert_raises(NoNumber, wrong, function, counts, wrong)

    def test_the_counts_are_looked_at_ahead_of_the_number(self):
        for function in OF_BOTH:
            for wrong in ({"a": True}, {"a": 301}, {"A": 1}, None):
                self.assert_raises(NoCounts, wrong, function, wrong, -1)
                self.assert_raises(NoCounts, wrong, function, wrong, None)

    def test_the_counts_are_not_changed(self):
        counts = {"b": 2, "c": 0, "a": 4}
        for function in OF_COUNTS:
            function(counts)
        for function in OF_BOTH:
            function(counts, 2)
        self.assertEqual(list(counts.items()), [("b", 2), ("c", 0), ("a", 4)])


if __name__ == "__main__":
    unittest.main()
