"""All small rows, texts, lists and rings, one by one."""

import unittest
from itertools import combinations_with_replacement, product

from tests.plain import all_rows, is_primitive, plain_row, plain_steps, primitive_root, texts_up_to, turns_of
from turnindex.numbers import rows_number
from turnindex.rows import (
    is_of_list, is_of_ring, is_of_text, read_back, row_of, row_of_all, row_of_list, row_of_ring, step_back,
)

ROWS = all_rows("$ab", 8) + all_rows("$abc", 6) + all_rows("ab", 11)


def collections_up_to(words, most):
    """All sorted tuples of sorted words, none of them empty, with at most so many letters in all."""
    made = [()]
    for size in range(1, most + 1):
        for words_taken in combinations_with_replacement(words, size):
            if sum(map(len, words_taken)) <= most:
                made.append(words_taken)
    return made


class AllRowsTest(unittest.TestCase):

    def test_what_is_read_back_has_this_row(self):
        for row in ROWS:
            texts, rings = read_back(row)
            self.assertEqual(row_of_all(texts, rings), row)
            self.assertEqual(len(texts), row.count("$"))
            self.assertEqual(rings, tuple(sorted(rings)))

    def test_rings_are_read_primitive_and_by_their_least_turns(self):
        for row in ROWS:
            for ring in read_back(row)[1]:
                self.assertTrue(is_primitive(ring))
                self.assertEqual(ring, min(turns_of(ring)))

    def test_steps(self):
        for row in ROWS:
            self.assertEqual(step_back(row), plain_steps(row))

    def test_what_the_row_is_of(self):
        of_texts = {row_of(text) for text in texts_up_to("ab", 7)}
        of_rings = {row_of_ring(word) for word in texts_up_to("ab", 8) if word}
        of_lists = {""}
        for many in range(1, 6):
            for texts in product(texts_up_to("ab", 5 - many), repeat=many):
                if sum(map(len, texts)) + many <= 5:
                    of_lists.add(row_of_list(texts))
        for row in all_rows("$ab", 8):
            self.assertIs(is_of_text(row), row in of_texts)
            self.assertIs(is_of_ring(row), row in of_rings)
            if len(row) <= 5:
                self.assertIs(is_of_list(row), row in of_lists)


class AllTextsTest(unittest.TestCase):

    def test_each_text(self):
        for text in texts_up_to("ab", 9) + texts_up_to("abc", 5):
            row = row_of(text)
            self.assertEqual(row, plain_row((text,), ()))
            self.assertEqual(read_back(row), ((text,), ()))

    def test_each_list(self):
        for many in range(4):
            for texts in product(texts_up_to("ab", 3), repeat=many):
                row = row_of_list(texts)
                self.assertEqual(read_back(row), (texts, ()))
                if sum(map(len, texts)) <= 5:
                    self.assertEqual(row, plain_row(texts, ()))

    def test_each_ring(self):
        for word in texts_up_to("ab", 9)[1:] + texts_up_to("abc", 5)[1:]:
            root, k = primitive_root(word)
            row = row_of_ring(word)
            self.assertEqual(row, plain_row((), (word,)))
            self.assertEqual(read_back(row), ((), (min(turns_of(root)),) * k))

    def test_texts_and_rings_together(self):
        words = texts_up_to("ab", 3)
        lists = [()] + [(text,) for text in words] + list(product(words[:7], repeat=2))
        for texts in lists:
            for rings in [(ring,) for ring in words[1:]] + list(product(words[1:7], repeat=2)):
                row = row_of_all(texts, rings)
                self.assertEqual(row, plain_row(texts, rings))
                roots = [primitive_root(ring) for ring in rings]
                read = sorted(min(turns_of(root)) for root, k in roots for _ in range(k))
                self.assertEqual(read_back(row), (texts, tuple(read)))


class JustOneTest(unittest.TestCase):

    def test_each_row_is_of_just_one_list_with_just_one_collection_of_rings(self):
        most = 4
        words = texts_up_to("ab", most)
        primitive = sorted(word for word in words[1:] if is_primitive(word) and word == min(turns_of(word)))
        found = {}
        for m in range(3):
            for texts in product(words, repeat=m):
                for rings in collections_up_to(primitive, most - sum(map(len, texts))):
                    row = row_of_all(texts, rings)
                    self.assertNotIn(row, found)
                    found[row] = (texts, rings)
        for row in found:
            self.assertEqual(read_back(row), found[row])
        for m in range(3):
            for a, b in product(range(most + 1), repeat=2):
                if a + b <= most:
                    like = [row for row in found if (row.count("$"), row.count("a"), row.count("b")) == (m, a, b)]
                    self.assertEqual(len(like), rows_number({"a": a, "b": b}, m))


if __name__ == "__main__":
    unittest.main()
