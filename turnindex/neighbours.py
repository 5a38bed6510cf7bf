"""What a text tells by the common beginnings of suffixes that are neighbours in the order."""

from math import comb

from turnindex.checks import check_text
from turnindex.orders import order_of
from turnindex.rows import row_of


def commons(text):
    """Give the length of the longest common beginning of each suffix with the one ahead of it in the order."""
    check_text(text)
    order = (len(text),) + order_of(text)
    return [_common(text, ahead, place) for ahead, place in zip(order, order[1:])]


def parts_number(text):
    """Give how many unlike parts, the empty one too, the text has."""
    check_text(text)
    # Each suffix begins with as many parts as it has letters, of which those in common with its neighbour are not new.
    return 1 + comb(len(text) + 1, 2) - sum(commons(text))


def parts_by_length(text):
    """Give how many unlike parts of each length the text has."""
    check_text(text)
    sizes = commons(text)
    # Each suffix begins with one part of a length, which is a new one if it is more than the common beginning.
    numbers = [len(text) - length + 1 - _at_least(sizes, length) for length in range(1, len(text) + 1)]
    return [1] + numbers


def repeats(text):
    """Give the parts that stand in several places, with unlike letters ahead and unlike ones behind."""
    check_text(text)
    sizes = commons(text)
    row = row_of(text)
    parts = []
    for at, place in enumerate(order_of(text)):
        # The letters behind are unlike, since the common beginning with the neighbour goes no further.
        if sizes[at] > 0 and len(set(_signs_ahead(row, sizes, at))) > 1:
            parts.append(text[place:place + sizes[at]])
    return sorted(set(parts))


def longest_repeat(text):
    """Give the least of the longest repeats."""
    check_text(text)
    return min(repeats(text), key=lambda part: (-len(part), part), default="")


def shortest_alone(text):
    """Give the least of the shortest parts that stand in one place alone."""
    check_text(text)
    sizes = commons(text) + [0]
    parts = []
    for at, place in enumerate(order_of(text)):
        # Such a part is longer than what its suffix has in common with both neighbours.
        size = max(sizes[at], sizes[at + 1]) + 1
        if place + size <= len(text):
            parts.append(text[place:place + size])
    return min(parts, key=lambda part: (len(part), part), default=None)


def statistics(text, other):
    """Give for each place of the other text the longest part of the text there, and where it stands first."""
    check_text(text)
    check_text(other)
    told = []
    length = 0
    for place in range(len(other)):
        while place + length < len(other) and other[place:place + length + 1] in text:
            length += 1
        told.append((length, text.find(other[place:place + length])))
        # What is left of the part behind its first letter is a part, too.
        length = max(0, length - 1)
    return told


def _common(text, one, other):
    """Give the length of the longest common beginning of the suffixes at two places."""
    most = len(text) - max(one, other)
    size = 0
    while size < most and text[one + size] == text[other + size]:
        size += 1
    return size


def _at_least(sizes, length):
    """Give how many of the sizes are at least this length."""
    return len([size for size in sizes if size >= length])


def _signs_ahead(row, sizes, at):
    """Give the signs ahead of all suffixes that begin with what the one at this place shares with its neighbour."""
    low = at
    while low > 0 and sizes[low - 1] >= sizes[at]:
        low -= 1
    high = at + 1
    while high < len(sizes) and sizes[high] >= sizes[at]:
        high += 1
    # The sizes are counted from the second suffix of the row on.
    return row[low:high + 1]
