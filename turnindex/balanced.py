"""Rings whose rows are in the order of some letters, balanced rings, and rings that have all words once."""

from math import factorial, gcd

from turnindex.checks import (
    check_counts, check_letters, check_number, check_sorted_letters, check_word, check_word_over, is_over,
)
from turnindex.errors import NoText
from turnindex.rows import read_back, row_of_ring


def row_is_by(word, letters):
    """Tell whether the row of the ring has its letters in this order, alike ones together."""
    check_word(word)
    check_letters(letters, word)
    return row_of_ring(word) == "".join([letter * word.count(letter) for letter in letters])


def against(word, letters):
    """Give the least two parts of the ring that show that its row is not by these letters, or None."""
    check_word(word)
    check_letters(letters, word)
    if row_is_by(word, letters):
        return None
    size = 0
    shown = []
    # Unlike turns part from one another within the ring, so some size shows it.
    while len(shown) == 0:
        for middle, sides in _sides(word, size).items():
            for ahead, behind in _crossed(sides, letters):
                shown.append((middle,) + ahead + behind)
        size += 1
    return min(shown)


def is_balanced(word):
    """Tell whether the numbers of a in any two parts of one length of the ring differ by at most one."""
    check_word_over(word, "ab")
    return row_is_by(word, "ba")


def unbalanced(word):
    """Give the least part that stands in the ring between two a and between two b, or None."""
    check_word_over(word, "ab")
    shown = against(word, "ba")
    return None if shown is None else shown[0]


def balanced_ring(p, q):
    """Give the least turn of the ring of so many a and b whose row has all b ahead of all a."""
    check_number(p, 0)
    check_number(q, 1 if p == 0 else 0)
    # The rings that are read are all alike, and together they are the ring.
    return "".join(read_back("b" * q + "a" * p)[1])


def fall_rings(counts):
    """Give the number of rings of the row that has these letters in falling order."""
    check_counts(counts)
    rings = read_back("".join([letter * counts[letter] for letter in sorted(list(counts), reverse=True)]))[1]
    return len(rings)


def least_runs(p, q):
    """Give the least number of runs of the row of a primitive ring of so many a and b."""
    check_number(p, 1)
    check_number(q, 1)
    # The only row with two runs is that of the balanced ring.
    return 2 if gcd(p, q) == 1 else 4


def has_all_words(word, letters, k):
    """Tell whether each word of k of the letters stands just once in the ring."""
    check_word(word)
    check_sorted_letters(letters, "")
    if letters == "":
        raise NoText(letters)
    check_number(k, 1)
    # No more letters are needed to tell the turns of the ring from one another.
    size = min(k, len(word))
    if not is_over(word, letters) or len(word) != _power(len(letters), size):
        return False
    return len({(word + word)[place:place + size] for place in range(len(word))}) == len(word)


def all_words_number(s, k):
    """Give how many rings of s letters have each word of k letters just once."""
    check_number(s, 1)
    check_number(k, 1)
    return _power(factorial(s), _power(s, k - 1)) // _power(s, k)


def _sides(word, size):
    """Give for each part of this size of the ring the unlike pairs of the letters ahead of it and behind it."""
    sides = {}
    endless = word + word
    for place in range(1, len(word) + 1):
        pair = (endless[place - 1], endless[place + size])
        pairs = sides.setdefault(endless[place:place + size], [])
        if pair not in pairs:
            pairs.append(pair)
    return sides


def _crossed(sides, letters):
    """Give each two pairs of which the one with the lesser letter behind has ahead the later one of the letters."""
    return [
        (one, other) for one in sides for other in sides
        if one[1] < other[1] and letters.index(other[0]) < letters.index(one[0])
    ]


def _power(base, exponent):
    """Give the power of a number, also of 1 with an exponent of any size."""
    power = 1
    square = base
    rest = exponent
    while rest > 0:
        if rest % 2 == 1:
            power *= square
        rest //= 2
        if rest > 0:
            square *= square
    return power
