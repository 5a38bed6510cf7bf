"""Texts that cannot be told apart by their parts of a length, and how one becomes another."""

from math import factorial

from turnindex.checks import check_number, check_text


def parts_of(text, k):
    """Give the unlike parts of length k, sorted, each with how often it stands in the text."""
    check_text(text)
    check_number(k, 1)
    return sorted(_tally(_pieces(text, k)).items())


def alike(one, other, k):
    """Tell whether the texts are equal or begin alike and have the same parts of length k."""
    check_text(one)
    check_text(other)
    check_number(k, 1)
    # Of texts that are shorter than k all letters are among the first ones, and their parts tell nothing.
    return one[:k - 1] == other[:k - 1] and parts_of(one, k) == parts_of(other, k)


def parting(one, other):
    """Give the least k by which the texts are not alike, or None if they are equal."""
    check_text(one)
    check_text(other)
    if one == other:
        return None
    k = 1
    while alike(one, other, k):
        k += 1
    return k


def alike_number(text, k):
    """Give how many texts are alike to this one by k, itself too."""
    check_text(text)
    check_number(k, 1)
    if k > len(text):
        return 1
    pieces = _pieces(text, k)
    # One arc more, from the last word to the first, makes rings of the ways; each ring has it once.
    arcs = [(piece[:-1], piece[1:]) for piece in pieces] + [(text[len(text) - k + 1:], text[:k - 1])]
    number = _trees(arcs)
    for leading in _tally([begin for begin, end in arcs]).values():
        number *= factorial(leading - 1)
    for many in _tally(pieces).values():
        number //= factorial(many)
    return number


def alone(text):
    """Give the least k by which no other text is alike to this one."""
    check_text(text)
    k = 1
    while another(text, k) is not None:
        k += 1
    return k


def another(text, k):
    """Give the least other text that is alike by k, or None if there is none."""
    check_text(text)
    check_number(k, 1)
    least = _least_from(text[:k - 1], _tally(_pieces(text, k)), k)
    return least if least != text else _least_behind(text, k)


def exchange(text, k):
    """Give the least four places at which an exchange makes another text, or None if there are none."""
    check_text(text)
    check_number(k, 1)
    words = _pieces(text, k - 1)
    for begin in range(len(words)):
        for middle in range(begin + 1, len(words)):
            for other in _places_from(words, middle, words[begin]):
                for end in _places_from(words, other + 1, words[middle]):
                    if _exchanged(text, (begin, middle, other, end)) != text:
                        return (begin, middle, other, end)
    return None


def ways(one, other, k):
    """Give texts from the one to the other, each by one exchange in the one ahead, or None if they are not alike."""
    check_text(one)
    check_text(other)
    check_number(k, 1)
    if not alike(one, other, k):
        return None
    texts = [one]
    while texts[-1] != other:
        texts.append(_closer(texts[-1], other, k))
    return texts


def _pieces(text, size):
    """Give the parts of a length at all places of the text, from the left."""
    return [text[place:place + size] for place in range(len(text) - size + 1)]


def _tally(things):
    """Give how often each of the things stands among them."""
    numbers = {}
    for thing in things:
        numbers[thing] = numbers.get(thing, 0) + 1
    return numbers


def _trees(arcs):
    """Give how many trees of these arcs lead from all other words to the first one."""
    words = sorted({begin for begin, end in arcs})
    numbers = {word: number for number, word in enumerate(words)}
    rows = [[0] * len(words) for _ in words]
    for begin, end in arcs:
        rows[numbers[begin]][numbers[begin]] += 1
        rows[numbers[begin]][numbers[end]] -= 1
    return _determinant([row[1:] for row in rows[1:]])


def _determinant(rows):
    """Give the determinant of rows for which no step divides by 0: those that the net of a text gives."""
    rest = rows
    ahead = 1
    while len(rest) > 1:
        top = rest[0]
        # All these divisions leave nothing over.
        rest = [
            [(top[0] * row[at] - row[0] * top[at]) // ahead for at in range(1, len(row))] for row in rest[1:]
        ]
        ahead = top[0]
    return rest[0][0] if len(rest) > 0 else 1


def _least_from(begin, left, k):
    """Give the least text that goes on from this beginning by all parts that are left."""
    text = begin
    rest = left
    while len(rest) > 0:
        word = text[len(text) - k + 1:]
        letter = _next_letters(word, rest)[0]
        rest = _without(rest, word + letter)
        text += letter
    return text


def _least_behind(text, k):
    """Give the least text greater than this one that is alike by k, or None if there is none."""
    for place in reversed(range(k - 1, len(text))):
        word = text[place - k + 1:place]
        left = _tally(_pieces(text[place - k + 1:], k))
        for letter in _next_letters(word, left):
            if letter > text[place]:
                return _least_from(text[:place] + letter, _without(left, word + letter), k)
    return None


def _next_letters(word, left):
    """Give the sorted letters behind this word with which a way goes on by all parts that are left."""
    parts = [part for part in sorted(left) if part[:-1] == word]
    return [part[-1] for part in parts if _goes_on(part[1:], _without(left, part))]


def _without(left, part):
    """Give what is left if this part is taken once."""
    rest = dict(left)
    rest[part] -= 1
    if rest[part] == 0:
        del rest[part]
    return rest


def _goes_on(word, left):
    """Tell whether a way from this word goes by all parts that are left."""
    # The parts are those of a text, less those taken so far: as many lead to a word as away from it, but for
    # the first and the last one. So there is such a way if all of them can be reached.
    nexts = {}
    for part in left:
        nexts.setdefault(part[:-1], []).append(part[1:])
    reached = {word: True}
    waiting = [word]
    while len(waiting) > 0:
        at = waiting.pop()
        for after in nexts.get(at, []):
            if after not in reached:
                reached[after] = True
                waiting.append(after)
    return all([begin in reached for begin in nexts])


def _places_from(words, least, word):
    """Give the places of the word among the words, from the least place on."""
    return [place for place in range(least, len(words)) if words[place] == word]


def _exchanged(text, places):
    """Give the text after an exchange at four places."""
    begin, middle, other, end = places
    return text[:begin] + text[other:end] + text[middle:other] + text[begin:middle] + text[end:]


def _closer(text, other, k):
    """Give the text after an exchange that makes its beginning in common with an alike text longer."""
    words = _pieces(text, k - 1)
    begin = min([place for place in range(len(text)) if text[place] != other[place]]) - k + 1
    # What follows in the other text stands further on here, too. If no word behind that place stood between
    # both, no way through the parts behind it would come back to those between, but the other text does.
    again = text.find(other[begin:begin + k], begin + 1)
    spans = [
        (middle, end) for middle in range(begin + 1, again + 1) for end in _places_from(words, again + 1, words[middle])
    ]
    middle, end = spans[0]
    return _exchanged(text, (begin, middle, again, end))
