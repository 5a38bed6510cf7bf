"""How many texts, lists, rows and rings there are with given letters."""

from math import comb, gcd

from turnindex.checks import check_counts, check_number


def texts_number(counts):
    """Give how many texts have just these letters."""
    check_counts(counts)
    return _arrangements(list(counts.values()))


def lists_number(counts, m):
    """Give how many tuples of m texts have just these letters in all."""
    check_counts(counts)
    check_number(m, 0)
    sizes = list(counts.values())
    total = sum(sizes)
    if m == 0:
        return 1 if total == 0 else 0
    # A tuple of m texts is one text with m - 1 cuts, of which several may be in one place.
    return _arrangements(sizes) * comb(total + m - 1, m - 1)


def rows_number(counts, m):
    """Give how many rows have just these letters and m ends."""
    check_counts(counts)
    check_number(m, 0)
    return _arrangements(list(counts.values()) + [m])


def rings_number(counts):
    """Give how many primitive rings have just these letters."""
    check_counts(counts)
    return _primitive_rings(list(counts.values()))


def turns_number(counts):
    """Give how many rings, primitive or not, have just these letters."""
    check_counts(counts)
    # Each ring is one primitive ring so many times.
    return sum([_primitive_rings(share) for share in _shares(list(counts.values()))])


def _arrangements(sizes):
    """Give how many words there are with so many of each sort of sign."""
    total = 0
    ways = 1
    for size in sizes:
        total += size
        ways *= comb(total, size)
    return ways


def _primitive_rings(sizes):
    """Give how many primitive rings there are with so many of each sort of sign."""
    total = sum(sizes)
    if total == 0:
        return 0
    # A primitive word has as many unlike turns as signs.
    return _primitive_words(sizes) // total


def _primitive_words(sizes):
    """Give how many primitive words there are with so many of each sort of sign, at least one in all."""
    # Each word that is not primitive is one primitive word so many times, twice at least.
    others = [_primitive_words(share) for share in _shares(sizes)[1:]]
    return _arrangements(sizes) - sum(others)


def _shares(sizes):
    """Give, for each k from 1 on that is possible, the sizes of a word that stands k times."""
    common = 0
    for size in sizes:
        common = gcd(common, size)
    return [[each // k for each in sizes] for k in range(1, common + 1) if common % k == 0]
