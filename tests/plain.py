"""The same as the program tells, made anew from the words of the document, slowly."""

from collections import Counter
from functools import cmp_to_key
from itertools import permutations, product


def texts_up_to(letters, most):
    """All texts of these letters with at most so many of them."""
    return ["".join(word) for size in range(most + 1) for word in product(letters, repeat=size)]


def turns_of(word):
    return [word[k:] + word[:k] for k in range(len(word))]


def is_primitive(word):
    """Whether the word is not a shorter word several times."""
    return all(word[:size] * (len(word) // size) != word for size in range(1, len(word)))


def primitive_root(word):
    """The primitive word of which this word is so many, and how many."""
    for size in range(1, len(word) + 1):
        if word[:size] * (len(word) // size) == word:
            return word[:size], len(word) // size
    raise AssertionError(word)


def tally(word):
    """The counts of a word as something that can be a key."""
    return tuple(sorted(Counter(word).items()))


def sign_of(thing, k):
    """The k-th sign of a suffix or a turn, so that signs compare as they should; None behind the end."""
    kind, word, number, place = thing
    if kind == "turn":
        return (1, word[(place + k) % len(word)])
    if place + k < len(word):
        return (1, word[place + k])
    return (0, number) if place + k == len(word) else None


def compare(one, other, limit):
    """Compare two suffixes or turns sign by sign."""
    for k in range(limit):
        first = sign_of(one, k)
        second = sign_of(other, k)
        if first != second:
            return -1 if first < second else 1
    return 0


def sign_ahead(thing):
    kind, word, _, place = thing
    if kind == "suffix" and place == 0:
        return "$"
    return word[place - 1]


def sorted_things(texts, rings):
    """All suffixes of the texts and all turns of the rings, in their order."""
    things = [("suffix", text, j, i) for j, text in enumerate(texts) for i in range(len(text) + 1)]
    things += [("turn", ring, 0, i) for ring in rings for i in range(len(ring))]
    limit = 2 * (sum(map(len, texts)) + sum(map(len, rings))) + 2
    return sorted(things, key=cmp_to_key(lambda one, other: compare(one, other, limit)))


def plain_row(texts, rings):
    """The row of all suffixes of the texts and all turns of the rings."""
    return "".join(map(sign_ahead, sorted_things(texts, rings)))


def plain_steps(row):
    """Where the sign at each place of the row stands in the sorted row."""
    return tuple(
        None if sign == "$" else sum(other < sign for other in row) + row[:place].count(sign)
        for place, sign in enumerate(row)
    )


def places_of(part, text):
    """All places at which a part stands in a text; the empty one stands at len(text), too."""
    return [i for i in range(len(text) - len(part) + 1) if text[i:i + len(part)] == part]


def parts_of_text(text):
    """All unlike parts of a text, sorted, the empty one too."""
    return sorted({text[i:j] for i in range(len(text) + 1) for j in range(i, len(text) + 1)})


def suffixes_in_order(texts):
    """(number of the text, place in it) of all suffixes, in their order."""
    return [(number, place) for _, _, number, place in sorted_things(texts, ())]


def all_rows(signs, most):
    """All rows of these signs of at most so many of them."""
    return texts_up_to(signs, most)


def numbers_below(least, above, seed):
    """An endless row of numbers that look as if there were no rule in them."""
    state = seed
    while True:
        state = (state * 1103515245 + 12345) % 2147483648
        yield least + (state >> 12) % (above - least)


def mixed_word(letters, size, seed):
    """A long word without a plain rule."""
    numbers = numbers_below(0, len(letters), seed)
    return "".join(letters[next(numbers)] for _ in range(size))


def cut(word, pieces, seed):
    """The word cut into so many pieces, of which some may be empty."""
    numbers = numbers_below(0, len(word) + 1, seed)
    places = sorted(next(numbers) for _ in range(pieces - 1))
    return tuple(word[i:j] for i, j in zip([0] + places, places + [len(word)]))


def shapes_in_order(letters):
    """All shapes in which these letters stand from left to right."""
    if len(letters) == 1:
        return [letters]
    cuts = range(1, len(letters))
    return [
        (left, right) for k in cuts for left in shapes_in_order(letters[:k]) for right in shapes_in_order(letters[k:])
    ]


def all_shapes(letters):
    """All shapes of just these letters."""
    return [shape for each in permutations(letters) for shape in shapes_in_order("".join(each))]


def depths(shape, depth=0):
    """The depth of each letter of a shape."""
    if isinstance(shape, str):
        return {shape: depth}
    return {**depths(shape[0], depth + 1), **depths(shape[1], depth + 1)}


def comb_shape(letters):
    """The deepest shape of these letters: each stands to the left of all later ones."""
    shape = letters[-1]
    for letter in reversed(letters[:-1]):
        shape = (letter, shape)
    return shape
