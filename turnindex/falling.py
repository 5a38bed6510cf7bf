"""The parts into which a text falls, and the rows of these parts as rings."""

from turnindex.checks import END, check_row, check_text
from turnindex.errors import NoRow
from turnindex.rows import read_back, row_of_all


def falling(text):
    """Give the parts of a text, none less than the next, each less than all its other turns."""
    check_text(text)
    begins = _begins(text)
    ends = begins[1:] + [len(text)]
    return tuple([text[begin:end] for begin, end in zip(begins, ends)])


def falling_row(text):
    """Give the row of the rings of the parts into which a text falls."""
    check_text(text)
    return row_of_all((), falling(text))


def falling_text(row):
    """Give the only text of which this row without ends is the falling row."""
    check_row(row)
    if END in row:
        raise NoRow(row)
    # The rings are told by their least turns, which are the parts, from the least on.
    rings = read_back(row)[1]
    return "".join(reversed(rings))


def _begins(text):
    """Give the places at which the parts begin that a text falls into."""
    begins = []
    for place in range(len(text)):
        # A part begins just where a suffix is less than all those that begin ahead of it.
        if len(begins) == 0 or text[place:] < text[begins[-1]:]:
            begins.append(place)
    return begins
