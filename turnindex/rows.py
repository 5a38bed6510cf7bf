"""The rows of texts, lists of texts and rings, and how they are read back."""

from turnindex.checks import END, check_row, check_text, check_texts, check_word, check_words


def row_of(text):
    """Give the row of a text."""
    check_text(text)
    return _row((text,), ())


def row_of_list(texts):
    """Give the row of all suffixes of all texts together."""
    check_texts(texts)
    return _row(texts, ())


def row_of_ring(word):
    """Give the row of all turns of a word, without ends."""
    check_word(word)
    return _row((), (word,))


def row_of_all(texts, rings):
    """Give the row of all suffixes of the texts and all turns of the rings together."""
    check_texts(texts)
    check_words(rings)
    return _row(texts, rings)


def step_back(row):
    """Give for each place of the row the place of its sign in the sorted row, None for ends."""
    check_row(row)
    back = [None] * len(row)
    ordered = sorted([(sign, place) for place, sign in enumerate(row)])
    for target, (sign, place) in enumerate(ordered):
        if sign != END:
            back[place] = target
    return tuple(back)


def read_back(row):
    """Give the texts and the rings of which this is the row, as two tuples."""
    back = step_back(row)
    ends = row.count(END)
    texts = []
    unread = [True] * len(row)
    for place in range(ends):
        way = _way(back, place)
        _cross_out(unread, way)
        texts.append(_read(row, way)[1:])
    rings = []
    # No step leads to the first places, those of the ends, so a ring has only later ones.
    for place in range(ends, len(row)):
        if unread[place]:
            way = _way(back, place)
            _cross_out(unread, way)
            rings.append(_least_turn(_read(row, way)))
    return tuple(texts), tuple(sorted(rings))


def is_of_text(row):
    """Tell whether the row is that of a text."""
    texts, rings = read_back(row)
    return len(texts) == 1 and len(rings) == 0


def is_of_list(row):
    """Tell whether the row is that of a list of texts, also of an empty one."""
    rings = read_back(row)[1]
    return len(rings) == 0


def is_of_ring(row):
    """Tell whether the row is that of a word, read round and round."""
    texts, rings = read_back(row)
    return len(texts) == 0 and len(set(rings)) == 1


def _row(texts, rings):
    """Give the signs ahead of all suffixes and turns, in the order of these."""
    marked = _suffixes(texts) + _turns(rings, _enough(texts, rings))
    return "".join([ahead for signs, ahead in sorted(marked)])


def _enough(texts, rings):
    """Give a number of signs within which a turn parts from all that it is not equal to."""
    # A suffix comes to its end. Two endless words that agree for as many signs
    # as both rings have together are equal.
    return max([len(text) + 1 for text in texts] + [2 * len(ring) for ring in rings], default=0)


def _suffixes(texts):
    """Give each suffix as numbers in the order of its signs, with the sign ahead of it."""
    suffixes = []
    for number, text in enumerate(texts):
        # Ends are below 0, so that they are less than all letters, in the order of the texts.
        signs = [ord(letter) for letter in text] + [number - len(texts)]
        for place, ahead in enumerate(END + text):
            suffixes.append((signs[place:], ahead))
    return suffixes


def _turns(rings, many):
    """Give so many signs of each turn, as numbers, with the sign ahead of it."""
    turns = []
    for ring in rings:
        signs = [ord(letter) for letter in ring]
        endless = signs * (many // len(signs) + 2)
        for place in range(len(ring)):
            turns.append((endless[place:place + many], ring[place - 1]))
    return turns


def _way(back, place):
    """Give the places from this one on, step by step back, up to an end or once round."""
    way = [place]
    at = back[place]
    while at is not None and at != place:
        way.append(at)
        at = back[at]
    return way


def _cross_out(unread, way):
    """Note that the places of a way have been read."""
    for place in way:
        unread[place] = False


def _read(row, way):
    """Give the signs of a way; the way leads from the last one to the first."""
    return "".join([row[place] for place in reversed(way)])


def _least_turn(word):
    """Give the least turn of a word."""
    return min([word[place:] + word[:place] for place in range(len(word))])
