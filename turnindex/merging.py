"""Two rows of lists of texts merged into one row, and such a row parted again."""

from turnindex.checks import END, check_marks, check_texts
from turnindex.errors import NoMarks, NoRow
from turnindex.rows import is_of_list, read_back, row_of_list, step_back


def merge(one, other):
    """Give the row of the texts of both rows, for each place of which row it comes, and the rounds it takes."""
    _check_row_of_list(one)
    _check_row_of_list(other)
    suffixes = _suffixes(one, 0) + _suffixes(other, len(one))
    order = list(range(len(suffixes)))
    ordered = _round(order, suffixes)
    rounds = 0
    while ordered != order:
        rounds += 1
        order = ordered
        ordered = _round(order, suffixes)
    signs = one + other
    row = "".join([signs[at] for at in order])
    marks = tuple([0 if at < len(one) else 1 for at in order])
    return (row, marks, rounds)


def agreeing(texts, others):
    """Give the longest common beginning of a suffix of the texts and a lesser one of the others, and both.

    It is None if there are none, so that no round changes anything.
    """
    check_texts(texts)
    check_texts(others)
    placed = _placed(others)
    # Of two suffixes with the same letters the one of the first texts is less, since its end is.
    shown = [
        (_common(one, other), here, there) for one, here in _placed(texts) for other, there in placed if other < one
    ]
    return min(shown, key=lambda told: (-len(told[0]), told), default=None)


def part(row, marks):
    """Give the two rows that merge to this one with these marks."""
    _check_row_of_list(row)
    check_marks(marks, len(row))
    texts = read_back(row)[0]
    # The first places are those of the ends, in the order of the texts.
    many = marks[:len(texts)].count(0)
    one = row_of_list(texts[:many])
    other = row_of_list(texts[many:])
    if merge(one, other)[1] != marks:
        raise NoMarks(marks)
    return (one, other)


def _check_row_of_list(row):
    """Raise NoRow if this is no row of a list of texts."""
    if not is_of_list(row):
        raise NoRow(row)


def _suffixes(row, offset):
    """Give for each place of the row the first sign of its suffix and the place of what stands behind that.

    Places are counted from the offset on. Ends are told apart by their own places, so that it does not matter
    that nothing stands behind them.
    """
    behind = [offset] * len(row)
    for place, target in enumerate(step_back(row)):
        if target is not None:
            behind[target] = offset + place
    firsts = [(sign, offset + place if sign == END else 0) for place, sign in enumerate(sorted(row))]
    return list(zip(firsts, behind))


def _round(order, suffixes):
    """Give the places in order by their first signs, and then by the order so far of what stands behind."""
    ranks = [0] * len(order)
    for rank, at in enumerate(order):
        ranks[at] = rank
    keys = [(first, ranks[behind]) for first, behind in suffixes]
    return sorted(order, key=lambda at: keys[at])


def _placed(texts):
    """Give all suffixes of the texts, without ends, each with the number of its text and its place in it."""
    return [
        (text[place:], (number, place)) for number, text in enumerate(texts) for place in range(len(text) + 1)
    ]


def _common(one, other):
    """Give the longest common beginning of two texts."""
    most = min(len(one), len(other))
    size = 0
    while size < most and one[size] == other[size]:
        size += 1
    return one[:size]
