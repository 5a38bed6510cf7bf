"""The tree of a text by a shape: at each pair of the shape it keeps to which side each sign goes on."""

from turnindex.checks import check_letter, check_number, check_number_between, check_shape, check_text
from turnindex.errors import NoNumber, NoShape, NoText, Unordered
from turnindex.shapes import LEFT, RIGHT, ways_to_letters


class Tree:
    """A text told by the sides to which its signs go at each pair of a shape that has all its letters."""

    def __init__(self, text, shape):
        check_text(text)
        check_shape(shape)
        self._ways = ways_to_letters(shape)
        if not all([letter in self._ways for letter in text]):
            raise NoShape(shape)
        self._text = text
        self._shape = shape
        self._top = _grown(text, shape)

    def __eq__(self, other):
        return isinstance(other, Tree) and self._text == other._text and self._shape == other._shape

    def access(self, place):
        """Give the letter at a place, and the steps down to it."""
        check_number_between(place, 0, len(self._text) - 1)
        node = self._top
        at = place
        steps = 0
        while isinstance(node, tuple):
            side = node[0][at]
            at = node[0][:at].count(side)
            node = node[side]
            steps += 1
        return (node, steps)

    def rank(self, letter, place):
        """Give how many of these letters stand ahead of a place, and the steps down to the letter."""
        self._check_own(letter)
        check_number_between(place, 0, len(self._text))
        pairs = self._pairs_above(letter)
        many = place
        for sides, side in pairs:
            many = sides[:many].count(side)
        return (many, len(pairs))

    def select(self, letter, k):
        """Give the place of the k-th of these letters, or None, and the steps up from the letter."""
        self._check_own(letter)
        check_number(k, 1)
        many, steps = self.rank(letter, len(self._text))
        if k > many:
            return (None, steps)
        at = k - 1
        for sides, side in reversed(self._pairs_above(letter)):
            at = [place for place, each in enumerate(sides) if each == side][at]
        return (at, steps)

    def least(self, begin, end, k):
        """Give the k-th least letter of the signs from begin up to end, and the steps down to it."""
        self._check_span(begin, end)
        check_number(k, 1)
        self._check_ordered()
        if k > end - begin:
            raise NoNumber(k)
        node = self._top
        span = (begin, end)
        number = k
        steps = 0
        while isinstance(node, tuple):
            lesser = [node[0][:place].count(LEFT) for place in span]
            if number <= lesser[1] - lesser[0]:
                span = (lesser[0], lesser[1])
                node = node[LEFT]
            else:
                number -= lesser[1] - lesser[0]
                span = (span[0] - lesser[0], span[1] - lesser[1])
                node = node[RIGHT]
            steps += 1
        return (node, steps)

    def between(self, begin, end, low, high):
        """Give how many of the signs from begin up to end are letters from low to high."""
        self._check_span(begin, end)
        check_letter(low)
        check_letter(high)
        self._check_ordered()
        letters = [letter for letter in self._ways if low <= letter <= high]
        return sum([self.rank(letter, end)[0] - self.rank(letter, begin)[0] for letter in letters])

    def _check_own(self, letter):
        """Raise NoText if this is no letter of the shape."""
        check_letter(letter)
        if letter not in self._ways:
            raise NoText(letter)

    def _check_span(self, begin, end):
        """Raise NoNumber if these are no begin and end of a part of the text, the first of them ahead."""
        check_number_between(begin, 0, len(self._text))
        check_number_between(end, begin, len(self._text))

    def _check_ordered(self):
        """Raise Unordered if the letters of the shape do not stand in order."""
        letters = list(self._ways)
        if letters != sorted(letters):
            raise Unordered(self._shape)

    def _pairs_above(self, letter):
        """Give of each pair on the way down to the letter the sides of its signs, and that of the letter."""
        pairs = []
        node = self._top
        for side in self._ways[letter]:
            pairs.append((node[0], side))
            node = node[side]
        return pairs


def _grown(text, shape):
    """Give the tree of a text by a shape: a letter, or the side of each sign, the left tree and the right one.

    So the sides, as numbers, are also where their trees stand.
    """
    if isinstance(shape, str):
        return shape
    ways = ways_to_letters(shape)
    sides = tuple([ways[sign][0] for sign in text])
    parts = ["".join([sign for sign in text if ways[sign][0] == side]) for side in (LEFT, RIGHT)]
    return (sides, _grown(parts[0], shape[0]), _grown(parts[1], shape[1]))
