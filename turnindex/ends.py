"""Where an end, put into a word, makes a row of a text."""

from turnindex.checks import END, check_text
from turnindex.rows import read_back


def ends_of(word):
    """Give the places at which an end, put into the word, makes a row of a text."""
    check_text(word)
    return [place for place, rings in enumerate(rings_by_end(word)) if rings == 0]


def rings_by_end(word):
    """Give for each place of an end put into the word how many rings are left over."""
    check_text(word)
    return [_rings_left(word[:place] + END + word[place:]) for place in range(len(word) + 1)]


def _rings_left(row):
    """Give how many rings are left over beside the texts of the row."""
    rings = read_back(row)[1]
    return len(rings)
