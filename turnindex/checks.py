"""What the arguments of the package have to be, and the errors if they are not."""

from turnindex.errors import NoCounts, NoMarks, NoNumber, NoOrder, NoRow, NoSampling, NoShape, NoText

END = "$"
LETTERS = "abcdefghijklmnopqrstuvwxyz"
MOST_LETTERS = 300


def is_text(value):
    """Tell whether the value is a text, also the empty one."""
    return isinstance(value, str) and all([sign in LETTERS for sign in value])


def is_word(value):
    """Tell whether the value is a text that is not empty."""
    return is_text(value) and len(value) > 0


def is_letter(value):
    """Tell whether the value is a text of one letter."""
    return is_text(value) and len(value) == 1


def is_letters(value):
    """Tell whether the value is a text of unlike letters, also the empty one."""
    return is_text(value) and len(set(value)) == len(value)


def is_sorted_letters(value):
    """Tell whether the value is a text of sorted, unlike letters, also the empty one."""
    return is_letters(value) and list(value) == sorted(value)


def is_over(text, letters):
    """Tell whether the text has none but these letters."""
    return all([letter in letters for letter in text])


def is_row(value):
    """Tell whether the value is a row of letters and ends."""
    return isinstance(value, str) and all([sign == END or sign in LETTERS for sign in value])


def is_number(value, least):
    """Tell whether the value is an integer from the least one on."""
    return isinstance(value, int) and not isinstance(value, bool) and value >= least


def is_number_between(value, least, greatest):
    """Tell whether the value is an integer from the least one to the greatest one."""
    return is_number(value, least) and value <= greatest


def is_counts(value):
    """Tell whether the value is a dict from letters to how many there are."""
    if not isinstance(value, dict):
        return False
    for letter, many in value.items():
        if not is_letter(letter) or not is_number(many, 0):
            return False
    return sum(value.values()) <= MOST_LETTERS


def is_order(value):
    """Tell whether the value is a tuple in which 0 to n - 1 stand once."""
    if not isinstance(value, tuple) or not all([is_number(place, 0) for place in value]):
        return False
    return sorted(value) == list(range(len(value)))


def is_sampling(value, length):
    """Tell whether the value is a sorted tuple of unlike places from 0 to the length, at least one."""
    if not isinstance(value, tuple) or len(value) == 0:
        return False
    if not all([is_number_between(place, 0, length) for place in value]):
        return False
    return list(value) == sorted(set(value))


def is_marks(value, length):
    """Tell whether the value is a tuple of so many integers 0 and 1."""
    if not isinstance(value, tuple) or len(value) != length:
        return False
    return all([is_number_between(mark, 0, 1) for mark in value])


def is_shape(value):
    """Tell whether the value is a letter or a pair of shapes, with each letter at most once."""
    letters = []
    waiting = [value]
    # No letter may stand twice, so this comes to an end soon, whatever is nested in what.
    while len(waiting) > 0:
        part = waiting.pop()
        if isinstance(part, tuple) and len(part) == 2:
            waiting.extend(part)
        elif is_letter(part) and part not in letters:
            letters.append(part)
        else:
            return False
    return True


def check_text(text):
    """Raise NoText if this is no text."""
    if not is_text(text):
        raise NoText(text)


def check_word(word):
    """Raise NoText if this is no text or the empty one."""
    if not is_word(word):
        raise NoText(word)


def check_letter(letter):
    """Raise NoText if this is no text of one letter."""
    if not is_letter(letter):
        raise NoText(letter)


def check_texts(texts):
    """Raise NoText if this is no tuple, or of the first thing in it that is no text."""
    if not isinstance(texts, tuple):
        raise NoText(texts)
    for text in texts:
        check_text(text)


def check_words(words):
    """Raise NoText if this is no tuple, or of the first thing in it that is no text or empty."""
    if not isinstance(words, tuple):
        raise NoText(words)
    for word in words:
        check_word(word)


def check_letters(letters, text):
    """Raise NoText if this is no text of unlike letters that has all those of the text."""
    if not is_letters(letters) or not is_over(text, letters):
        raise NoText(letters)


def check_sorted_letters(letters, text):
    """Raise NoText if this is no text of sorted, unlike letters that has all those of the text."""
    if not is_sorted_letters(letters) or not is_over(text, letters):
        raise NoText(letters)


def check_word_over(word, letters):
    """Raise NoText if this is no text of these letters or the empty one."""
    if not is_word(word) or not is_over(word, letters):
        raise NoText(word)


def check_row(row):
    """Raise NoRow if this is no row."""
    if not is_row(row):
        raise NoRow(row)


def check_number(number, least):
    """Raise NoNumber if this is no integer from the least one on."""
    if not is_number(number, least):
        raise NoNumber(number)


def check_number_between(number, least, greatest):
    """Raise NoNumber if this is no integer from the least one to the greatest one."""
    if not is_number_between(number, least, greatest):
        raise NoNumber(number)


def check_counts(counts):
    """Raise NoCounts if these are no counts."""
    if not is_counts(counts):
        raise NoCounts(counts)


def check_order(order):
    """Raise NoOrder if this is no order."""
    if not is_order(order):
        raise NoOrder(order)


def check_length(length):
    """Raise NoNumber if this is no length that a text may have."""
    check_number_between(length, 0, MOST_LETTERS)


def check_sampling(samples, length):
    """Raise NoSampling if this is no sampling of a text of this length."""
    if not is_sampling(samples, length):
        raise NoSampling(samples)


def check_marks(marks, length):
    """Raise NoMarks if this is no tuple of so many integers 0 and 1."""
    if not is_marks(marks, length):
        raise NoMarks(marks)


def check_shape(shape):
    """Raise NoShape if this is no shape."""
    if not is_shape(shape):
        raise NoShape(shape)


def check_weights(weights):
    """Raise NoCounts if these are no counts with at least one letter."""
    if not is_counts(weights) or len(weights) == 0:
        raise NoCounts(weights)
