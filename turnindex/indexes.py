"""The index of a list of texts, which searches by their row."""

from turnindex.checks import check_letter, check_number_between, check_text, check_texts
from turnindex.errors import NoText
from turnindex.rows import row_of_list, step_back


class Index:
    """The row of a tuple of at least one text, and where its suffixes stand in the texts."""

    def __init__(self, texts):
        check_texts(texts)
        if len(texts) == 0:
            raise NoText(texts)
        self.texts = texts
        self.row = row_of_list(texts)
        self._back = step_back(self.row)
        self._suffixes = _suffixes_by_place(texts, self._back)

    def __eq__(self, other):
        return isinstance(other, Index) and self.texts == other.texts

    def rank(self, letter, place):
        """Give how many of these letters stand ahead of a place of the row."""
        check_letter(letter)
        check_number_between(place, 0, len(self.row))
        return self.row[:place].count(letter)

    def begin(self, letter):
        """Give how many signs of the row are less than the letter."""
        check_letter(letter)
        return sum([1 for sign in self.row if sign < letter])

    def search(self, pattern):
        """Give the places of the suffixes that begin with the pattern, as begin and end, and the steps."""
        check_text(pattern)
        begin = 0
        end = len(self.row)
        steps = 0
        for letter in reversed(pattern):
            steps += 1
            less = self.begin(letter)
            begin = less + self.rank(letter, begin)
            end = less + self.rank(letter, end)
            if begin == end:
                return (None, None, steps)
        return (begin, end, steps)

    def count(self, pattern):
        """Give in how many places the pattern stands."""
        check_text(pattern)
        return len(self._found(pattern))

    def texts_with(self, pattern):
        """Give the numbers of the texts that have the pattern."""
        check_text(pattern)
        return sorted({number for number, place in self._found(pattern)})

    def suffix_at(self, place):
        """Give the number of the text and the place in it of the suffix at a place of the row."""
        check_number_between(place, 0, len(self.row) - 1)
        return self._suffixes[place]

    def extract(self, number, begin, end):
        """Give a part of a text, read back from the end of the text, and how many letters were read."""
        check_number_between(number, 0, len(self.texts) - 1)
        length = len(self.texts[number])
        check_number_between(begin, 0, length)
        check_number_between(end, begin, length)
        if begin == end:
            return ("", 0)
        letters = self._last_letters(number, length - begin)
        return (letters[:end - begin], len(letters))

    def _found(self, pattern):
        """Give the number of the text and the place in it of each suffix that begins with the pattern."""
        begin, end, _ = self.search(pattern)
        return () if begin is None else self._suffixes[begin:end]

    def _last_letters(self, number, many):
        """Give so many last letters of a text, read back from its end."""
        letters = []
        at = number
        while len(letters) < many:
            letters.append(self.row[at])
            at = self._back[at]
        return "".join(reversed(letters))


def _suffixes_by_place(texts, back):
    """Give for each place of the row the number of the text and the place in it of the suffix there."""
    suffixes = [None] * len(back)
    for number, text in enumerate(texts):
        # Ends are the least signs, in the order of the texts, so the end of text j is at place j.
        at = number
        for place in reversed(range(len(text) + 1)):
            suffixes[at] = (number, place)
            at = back[at]
    return tuple(suffixes)
