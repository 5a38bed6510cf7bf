"""The runs of rows and rings, and an index that keeps the order of the suffixes at runs only."""

from turnindex.checks import check_number_between, check_row, check_text, check_word
from turnindex.orders import order_of
from turnindex.rows import row_of, row_of_ring


def runs(row):
    """Give the runs of a row, each as its sign and how many of it there are."""
    check_row(row)
    found = []
    begin = 0
    for end in range(1, len(row) + 1):
        if end == len(row) or row[end] != row[begin]:
            found.append((row[begin], end - begin))
            begin = end
    return tuple(found)


def ring_runs(word):
    """Give the number of runs of a word that is read round and round."""
    check_text(word)
    sorts = len(set(word))
    if sorts < 2:
        return sorts
    return sum([1 for place in range(len(word)) if word[place] != word[place - 1]])


def reaches(word):
    """Tell whether the row of the ring has twice as many runs as the ring, which is the most."""
    check_word(word)
    return len(runs(row_of_ring(word))) == 2 * ring_runs(word)


class RunIndex:
    """The runs of the row of a text, with the places in the text of the suffixes where they begin and end.

    What stands ahead of the suffix that begins a run is the suffix that ends the run ahead.
    """

    def __init__(self, text):
        check_text(text)
        order = (len(text),) + order_of(text)
        self._length = len(text)
        self._runs = runs(row_of(text))
        begins = _begins(self._runs)
        ends = begins[1:] + [len(order)]
        self._firsts = tuple([order[begin] for begin in begins])
        self._lasts = tuple([order[end - 1] for end in ends])

    def __eq__(self, other):
        # A row is that of just one text.
        return isinstance(other, RunIndex) and self._runs == other._runs

    def size(self):
        """Give the number of runs."""
        return len(self._runs)

    def ahead(self, place):
        """Give the place of the suffix just ahead, in the order, of that at this place; None for the first one."""
        check_number_between(place, 0, self._length)
        # The whole text begins a run, since its end stands alone in the row.
        nearest = max([first for first in self._firsts if first <= place])
        run = self._firsts.index(nearest)
        if run == 0:
            return None
        return self._lasts[run - 1] + place - nearest

    def kept(self):
        """Give the places in the text of the letters that begin or end runs of the row."""
        return sorted({place - 1 for place in self._firsts + self._lasts if place > 0})

    def locate(self, pattern):
        """Give the places of the pattern, the last one in the order first."""
        check_word(pattern)
        many, place = self._last(pattern)
        places = []
        while len(places) < many:
            places.append(place)
            place = self.ahead(place)
        return places

    def touched(self, part):
        """Give the least place of the part at which one of the kept places lies within it."""
        check_word(part)
        kept = self.kept()
        size = len(part)
        places = [place for place in self.locate(part) if any([place <= each < place + size for each in kept])]
        return min(places, default=None)

    def _last(self, pattern):
        """Give how many suffixes begin with the pattern, and the place in the text of the last one in the order."""
        begin = 0
        end = self._length + 1
        place = self._lasts[-1]
        for letter in reversed(pattern):
            less = sum([many for sign, many in self._runs if sign < letter])
            place = self._letter_ahead(letter, end, place)
            begin = less + self._rank(letter, begin)
            end = less + self._rank(letter, end)
            if begin == end:
                return (0, None)
        return (end - begin, place)

    def _rank(self, letter, end):
        """Give how many of these letters stand ahead of a place of the row."""
        rank = 0
        for run, begin in enumerate(_begins(self._runs)):
            sign, many = self._runs[run]
            if sign == letter and begin < end:
                rank += min(many, end - begin)
        return rank

    def _letter_ahead(self, letter, end, place):
        """Give the place in the text of the last one of these letters ahead of a place of the row.

        The suffix just ahead of that place of the row stands at the place that is passed.
        """
        found = None
        for run, begin in enumerate(_begins(self._runs)):
            sign, many = self._runs[run]
            if sign == letter and begin < end:
                # Either this run goes on up to the place of the row, or its end is kept.
                found = place - 1 if begin + many >= end else self._lasts[run] - 1
        return found


def _begins(row_runs):
    """Give the places of the row at which its runs begin."""
    begins = []
    at = 0
    for _, many in row_runs:
        begins.append(at)
        at += many
    return begins
