"""Shapes of nested pairs of letters, and those of least cost for given weights."""

from turnindex.checks import check_shape, check_weights
from turnindex.errors import NoShape

LEFT = 1
RIGHT = 2


def cost(shape, weights):
    """Give the sum of weight times depth of all letters of the shape."""
    check_shape(shape)
    check_weights(weights)
    ways = ways_to_letters(shape)
    if sorted(list(ways)) != sorted(list(weights)):
        raise NoShape(shape)
    return sum([weights[letter] * len(way) for letter, way in ways.items()])


def least_shape(weights):
    """Give the shape of least cost that comes of joining the two lightest, again and again."""
    check_weights(weights)
    # The least letters are all unlike, so shapes are never compared.
    parts = [(weight, letter, letter) for letter, weight in weights.items()]
    while len(parts) > 1:
        ordered = sorted(parts)
        left, right = sorted(ordered[:2], key=lambda part: part[1])
        parts = ordered[2:] + [(left[0] + right[0], left[1], (left[2], right[2]))]
    return parts[0][2]


def least_ordered(weights):
    """Give the shape of least cost of those whose letters stand in order, with the fewest letters to the left."""
    check_weights(weights)
    letters = sorted(list(weights))
    # For each begin and end: the cost, and the shape, of the letters between them.
    told = {(begin, begin + 1): (0, letter) for begin, letter in enumerate(letters)}
    for size in range(2, len(letters) + 1):
        for begin in range(len(letters) - size + 1):
            end = begin + size
            joined = [_joined(told[begin, middle], told[middle, end]) for middle in range(begin + 1, end)]
            # The first one of several is that with the fewest letters to the left.
            least, shape = min(joined, key=lambda each: each[0])
            told[begin, end] = (least + sum([weights[letter] for letter in letters[begin:end]]), shape)
    return told[0, len(letters)][1]


def ways_to_letters(shape):
    """Give for each letter of the shape, from left to right, the sides on the way that leads to it."""
    if isinstance(shape, str):
        return {shape: ()}
    ways = {}
    for side, part in zip((LEFT, RIGHT), shape):
        for letter, way in ways_to_letters(part).items():
            ways[letter] = (side,) + way
    return ways


def _joined(left, right):
    """Give the cost of two sides together, without the step that leads to them, and the pair of their shapes."""
    return (left[0] + right[0], (left[1], right[1]))
