"""Samplings, against going back step by step and against going through all samplings."""

import unittest
from itertools import combinations
from math import comb

from tests.kinds import KindsCase, WRONG_STRINGS, some_of_each_kind
from tests.plain import mixed_word, suffixes_in_order, texts_up_to
from turnindex.errors import NoNumber, NoSampling, NoText
from turnindex.samples import first_sampling, least_samples, locate, most_steps, samplings_number

OF_STEPS = (least_samples, samplings_number, first_sampling)


def samplings_of(length):
    """All samplings of a text of this length, those with fewer samples first."""
    places = range(length + 1)
    return [samples for many in range(1, length + 2) for samples in combinations(places, many)]


def plain_steps_to(place, samples, length):
    """The steps from a place of the text back to a sampled one, one by one."""
    steps = 0
    while place not in samples:
        place = length if place == 0 else place - 1
        steps += 1
    return steps


def plain_most_steps(length, samples):
    return max(plain_steps_to(place, samples, length) for place in range(length + 1))


class ExamplesTest(unittest.TestCase):

    def test_e09(self):
        told = [locate("banana", (0, 3), 1), least_samples(6, 2), samplings_number(6, 2), first_sampling(6, 2)]
        self.assertEqual(told, [(5, 2), 3, 14, (0, 1, 4)])


class LocateTest(unittest.TestCase):

    def test_each_sampling_of_each_small_text(self):
        for text in texts_up_to("ab", 5) + texts_up_to("abc", 3) + ["banana", "zyzzy"]:
            suffixes = suffixes_in_order((text,))
            for samples in samplings_of(len(text)):
                for place, (_, found) in enumerate(suffixes):
                    steps = plain_steps_to(found, samples, len(text))
                    self.assertEqual(locate(text, samples, place), (found, steps))

    def test_one_sample_alone(self):
        self.assertEqual([locate("ab", (0,), place) for place in range(3)], [(2, 2), (0, 0), (1, 1)])
        self.assertEqual([locate("ab", (2,), place) for place in range(3)], [(2, 0), (0, 1), (1, 2)])

    def test_from_the_place_0_the_step_goes_to_the_end(self):
        self.assertEqual(locate("banana", (6,), 4), (0, 1))
        self.assertEqual(locate("banana", (5,), 4), (0, 2))
        self.assertEqual(locate("banana", (1,), 4), (0, 6))

    def test_the_empty_text(self):
        self.assertEqual(locate("", (0,), 0), (0, 0))

    def test_the_result_is_a_tuple(self):
        self.assertIs(locate("banana", (0, 3), 1).__class__, tuple)


class MostStepsTest(unittest.TestCase):

    def test_each_sampling_of_each_small_length(self):
        for length in range(10):
            for samples in samplings_of(length):
                self.assertEqual(most_steps(length, samples), plain_most_steps(length, samples))

    def test_edges(self):
        self.assertEqual(most_steps(0, (0,)), 0)
        self.assertEqual(most_steps(300, (0,)), 300)
        self.assertEqual(most_steps(300, (300,)), 300)
        self.assertEqual(most_steps(300, (150,)), 300)
        self.assertEqual(most_steps(300, tuple(range(301))), 0)
        self.assertEqual(most_steps(300, tuple(range(300))), 1)


class LeastSamplesTest(unittest.TestCase):

    def test_against_going_through_all_samplings(self):
        for length in range(12):
            all_samplings = samplings_of(length)
            most = {samples: plain_most_steps(length, samples) for samples in all_samplings}
            for steps in list(range(length + 4)) + [1000]:
                least = min(len(samples) for samples in all_samplings if most[samples] <= steps)
                best = [one for one in all_samplings if len(one) == least and most[one] <= steps]
                self.assertEqual(least_samples(length, steps), least)
                self.assertEqual(samplings_number(length, steps), len(best))
                self.assertEqual(first_sampling(length, steps), min(best))

    def test_length_0(self):
        for steps in (0, 1, 5, 10 ** 30):
            told = [least_samples(0, steps), samplings_number(0, steps), first_sampling(0, steps)]
            self.assertEqual(told, [1, 1, (0,)])

    def test_no_steps(self):
        for length in (1, 5, 300):
            told = [least_samples(length, 0), samplings_number(length, 0), first_sampling(length, 0)]
            self.assertEqual(told, [length + 1, 1, tuple(range(length + 1))])

    def test_great_steps(self):
        for length in (1, 5, 300):
            for steps in (length, length + 1, 1000, 10 ** 30):
                told = [least_samples(length, steps), samplings_number(length, steps), first_sampling(length, steps)]
                self.assertEqual(told, [1, length + 1, (0,)])
            self.assertEqual(least_samples(length, length - 1), 2)

    def test_kinds_of_the_results(self):
        for length, steps in ((0, 0), (6, 2), (300, 7), (300, 1000)):
            self.assertIs(least_samples(length, steps).__class__, int)
            self.assertIs(samplings_number(length, steps).__class__, int)
            self.assertIs(first_sampling(length, steps).__class__, tuple)


class SizesTest(unittest.TestCase):

    def test_length_300_with_all_numbers_of_steps(self):
        for steps in range(302):
            many = least_samples(300, steps)
            first = first_sampling(300, steps)
            self.assertEqual(len(first), many)
            self.assertEqual(list(first), sorted(set(first)))
            self.assertEqual(first[0], 0)
            self.assertLessEqual(most_steps(300, first), steps)
            # fewer samples cannot serve 301 places
            self.assertLess((many - 1) * (steps + 1), 301)
            self.assertEqual(samplings_number(300, steps), self.plain_number(301, many, steps + 1))

    def plain_number(self, places, many, widest):
        """How many sets of so many places, round and round, have no gap that is wider, by sums over gaps."""
        ways = [1] + [0] * places
        for _ in range(many - 1):
            ways = [sum(ways[max(0, at - widest):at]) for at in range(places + 1)]
        # the gap over the border is told last: a gap of so many places may lie across it in so many ways
        return sum(gap * ways[places - gap] for gap in range(1, min(widest, places) + 1))

    def test_plain_number(self):
        self.assertEqual(self.plain_number(7, 3, 3), 14)
        self.assertEqual(self.plain_number(7, 3, 7), comb(7, 3))

    def test_locate_in_texts_of_300_letters(self):
        for text in ("a" * 300, "abc" * 100, mixed_word("ab", 300, 61),
                     mixed_word("abcdefghijklmnopqrstuvwxyz", 300, 62)):
            suffixes = suffixes_in_order((text,))
            for samples in ((0,), (300,), (137,), tuple(range(0, 301, 7)), tuple(range(301)), (3, 4, 5, 200)):
                self.assertEqual(most_steps(300, samples), plain_most_steps(300, samples))
                for place in (0, 1, 2, 99, 150, 299, 300):
                    found = suffixes[place][1]
                    steps = plain_steps_to(found, samples, 300)
                    self.assertEqual(locate(text, samples, place), (found, steps))


class WrongArgumentsTest(KindsCase):

    def wrong_samples(self, length):
        wrong = [one for one in some_of_each_kind() + ["", "0", [0], [0, 1], {0: 1}, {0}, range(1), b"\x00"]]
        wrong += [
            (), (-1,), (-1, 0), (0, 0), (1, 0), (0, length + 1), (length + 1,), (10 ** 30,), (0, 10 ** 30),
            (False,), (True,), (0, True), (False, 1), (0.0,), (0, 1.0), ("0",), (0, "1"), (None,), (0, None), ([0],),
            (0, [1]), ((0,),), (length, 0), (0, 1, 1), (0, 2, 1), (1, 1), (0, length, length), (0, b"a"),
        ]
        wrong += [(one,) for one in some_of_each_kind() if one.__class__ is not int or not 0 <= one <= length]
        return [one for one in wrong if not self.is_right(one, length)]

    def is_right(self, one, length):
        if one.__class__ is not tuple or not one or any(place.__class__ is not int for place in one):
            return False
        return set(one) <= set(range(length + 1)) and list(one) == sorted(set(one))

    def wrong_numbers(self, least, greatest):
        numbers = [least - 1, least - 2, 10 ** 30, -(10 ** 30)]
        if greatest is not None:
            numbers += [greatest + 1, greatest + 2]
        others = some_of_each_kind() + ["", "0", "a", (0,), [0]]
        return [
            number for number in numbers + others
            if number.__class__ is not int or number < least or greatest is not None and number > greatest
        ]

    def test_no_text(self):
        for wrong in some_of_each_kind() + list(WRONG_STRINGS) + ["$", "a$"]:
            self.assert_raises(NoText, wrong, locate, wrong, (0,), 0)

    def test_no_sampling(self):
        for length in (0, 1, 2, 6):
            wrong_samples = self.wrong_samples(length)
            self.assertGreater(len(wrong_samples), 100)
            for wrong in wrong_samples:
                self.assert_raises(NoSampling, wrong, locate, "banana"[:length], wrong, 0)
                self.assert_raises(NoSampling, wrong, most_steps, length, wrong)

    def test_samples_are_measured_by_the_text(self):
        self.assertEqual(locate("ab", (2,), 0), (2, 0))
        self.assert_raises(NoSampling, (3,), locate, "ab", (3,), 0)
        self.assertEqual(most_steps(2, (0, 2)), 1)
        self.assert_raises(NoSampling, (0, 3), most_steps, 2, (0, 3))

    def test_no_place(self):
        for text in ("", "a", "banana"):
            for wrong in self.wrong_numbers(0, len(text)):
                self.assert_raises(NoNumber, wrong, locate, text, (0,), wrong)

    def test_no_length(self):
        for wrong in self.wrong_numbers(0, 300):
            self.assert_raises(NoNumber, wrong, most_steps, wrong, (0,))
            for function in OF_STEPS:
                self.assert_raises(NoNumber, wrong, function, wrong, 1)

    def test_no_steps(self):
        for wrong in self.wrong_numbers(0, None):
            if wrong.__class__ is not int or wrong < 0:
                for function in OF_STEPS:
                    for length in (0, 6, 300):
                        self.assert_raises(NoNumber, wrong, function, length, wrong)

    def test_the_first_wrong_argument_counts(self):
        self.assert_raises(NoText, "A", locate, "A", (), -1)
        self.assert_raises(NoText, None, locate, None, None, None)
        self.assert_raises(NoSampling, (), locate, "a", (), -1)
        self.assert_raises(NoSampling, (2,), locate, "a", (2,), None)
        self.assert_raises(NoNumber, -1, most_steps, -1, ())
        self.assert_raises(NoNumber, 301, most_steps, 301, [0])
        for function in OF_STEPS:
            self.assert_raises(NoNumber, 301, function, 301, -1)
            self.assert_raises(NoNumber, True, function, True, None)


if __name__ == "__main__":
    unittest.main()
