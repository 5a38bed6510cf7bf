"""Samplings: how far it is from a suffix back to the next place that is known."""

from math import comb

from turnindex.checks import check_length, check_number, check_number_between, check_sampling, check_text
from turnindex.orders import order_of


def locate(text, samples, place):
    """Give the place in the text of the suffix at a place of the row, and the steps back to a sample."""
    check_text(text)
    check_sampling(samples, len(text))
    check_number_between(place, 0, len(text))
    order = (len(text),) + order_of(text)
    found = order[place]
    steps = min([(found - sample) % len(order) for sample in samples])
    return (found, steps)


def most_steps(length, samples):
    """Give the greatest number of steps that a place of a text of this length takes."""
    check_length(length)
    check_sampling(samples, length)
    # Round and round, the first sample comes again behind the last one.
    nexts = samples[1:] + (samples[0] + length + 1,)
    return max([after - sample for sample, after in zip(samples, nexts)]) - 1


def least_samples(length, steps):
    """Give the least number of samples with which nothing takes more than so many steps."""
    check_length(length)
    check_number(steps, 0)
    # A sample serves itself and so many places behind it.
    return length // (steps + 1) + 1


def samplings_number(length, steps):
    """Give how many samplings with the least number of samples there are."""
    check_length(length)
    check_number(steps, 0)
    places = length + 1
    many = least_samples(length, steps)
    # What the samples could serve beyond the places is less than what one serves, so it may be taken
    # off the gaps behind the samples in any shares.
    spare = many * (steps + 1) - places
    gaps = comb(spare + many - 1, many - 1)
    # Such gaps may begin at each place; each sampling comes so once for each of its samples.
    return places * gaps // many


def first_sampling(length, steps):
    """Give the least sampling with the least number of samples."""
    check_length(length)
    check_number(steps, 0)
    places = length + 1
    many = least_samples(length, steps)
    # The first gap is as narrow as the others, as wide as they can be, allow.
    second = places - (many - 1) * (steps + 1)
    return (0,) + tuple(range(second, places, steps + 1))
