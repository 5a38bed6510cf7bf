"""How a row changes with the first letter of its text, and how an order of suffixes comes to another one."""

from turnindex.checks import END, check_letter, check_text
from turnindex.errors import NoRow, NoText
from turnindex.orders import order_of
from turnindex.rows import is_of_text, step_back


def put_ahead(row, letter):
    """Give the row of the text with the letter ahead of it."""
    _check_row_of_text(row)
    check_letter(letter)
    whole = row.index(END)
    # Ahead of the new suffix come those that begin with a lesser sign, and of those that begin with this
    # letter the ones that go on with a suffix less than the whole text.
    new = len([sign for sign in row if sign < letter]) + row[:whole].count(letter)
    changed = row[:whole] + letter + row[whole + 1:]
    return changed[:new] + END + changed[new:]


def take_ahead(row):
    """Give the first letter of the text, and the row of the text without it."""
    _check_row_of_text(row)
    if row == END:
        raise NoRow(row)
    whole = row.index(END)
    letter = sorted(row)[whole]
    rest = step_back(row).index(whole)
    changed = row[:rest] + END + row[rest + 1:]
    return (letter, changed[:whole] + changed[whole + 1:])


def turned(one, other):
    """Give the pairs of places of suffixes whose order in the one text is not that in the other."""
    _check_one_length(one, other)
    ranks = _ranks(one)
    others = _ranks(other)
    pairs = [(i, k) for i in range(len(one) + 1) for k in range(i + 1, len(one) + 1)]
    return [(i, k) for i, k in pairs if (ranks[i] < ranks[k]) != (others[i] < others[k])]


def least_moves(one, other):
    """Give how many suffixes must at least be moved to come from the order of the one text to that of the other."""
    _check_one_length(one, other)
    return len(one) + 1 - len(stays(one, other))


def stays(one, other):
    """Give the places of the most suffixes that need not be moved, in the order of the one text."""
    _check_one_length(one, other)
    others = _ranks(other)
    longest = {}
    for place in reversed(_order(one)):
        behind = [longest[after] for after in longest if others[after] > others[place]]
        longest[place] = (place,) + min(behind, key=_most_then_least, default=())
    return min(list(longest.values()), key=_most_then_least)


def _check_row_of_text(row):
    """Raise NoRow if this is no row of a text."""
    if not is_of_text(row):
        raise NoRow(row)


def _check_one_length(one, other):
    """Raise NoText if these are no two texts of one length."""
    check_text(one)
    check_text(other)
    if len(one) != len(other):
        raise NoText(other)


def _order(text):
    """Give the places of all suffixes, also the empty one, in their order."""
    return (len(text),) + order_of(text)


def _ranks(text):
    """Give for each place of the text where its suffix stands in the order."""
    ranks = [0] * (len(text) + 1)
    for rank, place in enumerate(_order(text)):
        ranks[place] = rank
    return ranks


def _most_then_least(places):
    """Give what is least for the longest tuple, and of several for the least one."""
    return (-len(places), places)
