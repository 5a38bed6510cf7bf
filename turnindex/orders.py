"""The orders of the suffixes of texts, and the texts that have an order."""

from math import comb

from turnindex.checks import LETTERS, check_number_between, check_order, check_text


def order_of(text):
    """Give the places of the suffixes in their order, that of the empty suffix apart."""
    check_text(text)
    return tuple(sorted(range(len(text)), key=lambda place: text[place:]))


def drops(order):
    """Give the places of the order behind which the next suffix has to begin with a greater letter."""
    check_order(order)
    ranks = _ranks(order)
    return [at for at in range(len(order) - 1) if ranks[order[at] + 1] > ranks[order[at + 1] + 1]]


def least_text(order):
    """Give the least text that has this order, or None if it needs more than all letters."""
    check_order(order)
    dropped = drops(order)
    if len(dropped) >= len(LETTERS):
        return None
    letters = [""] * len(order)
    number = 0
    for at, place in enumerate(order):
        letters[place] = LETTERS[number]
        if at in dropped:
            number += 1
    return "".join(letters)


def orders_number(order, letters):
    """Give how many texts over the first letters of the alphabet, so many, have this order."""
    check_order(order)
    check_number_between(letters, 0, len(LETTERS))
    size = len(order)
    if size == 0:
        return 1
    # Along the order the letters never fall, and each drop makes them rise by one at least: what is
    # left to choose are so many letters with repetitions.
    return comb(size + letters - len(drops(order)) - 1, size)


def has_order(text, order):
    """Tell whether the suffixes of the text have this order."""
    check_text(text)
    check_order(order)
    return order_of(text) == order


def _ranks(order):
    """Give for each place, also that of the empty suffix, where its suffix stands in the order."""
    ranks = [0] * len(order)
    for rank, place in enumerate(order):
        ranks[place] = rank
    # The empty suffix comes ahead of all.
    return ranks + [-1]
