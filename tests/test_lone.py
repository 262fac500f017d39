"""Point 28: a number alone."""

import random
import unittest

from startbits.lengths import lengths_for
from startbits.lone import lengths_as, read_alone, silent_numbers
from startbits.readings import readings
from startbits.shapes import size_of
from startbits.signals import sent
from tests.reference import ALL_SHAPES, plain_readings, stretches_in

UART, SIXTEEN = (8, "none", 1), (10, 8, 16)
EDGE = ((1, "none", 1), (100, 0, 1))
BIG = 10 ** 26
RECEIVERS = [(1, 0, 1), (2, 1, 2), (3, 0, 1), (4, 1, 3), (5, 2, 1), (9, 0, 1)]


def good_numbers(found):
    """The numbers of readings that are all good, None if one is not."""
    return [number for _, _, number in found] if all(word == "good" for _, word, _ in found) else None


class ExampleTest(unittest.TestCase):
    def test_read_alone(self):
        found = [read_alone(UART, SIXTEEN, length, 0, 0) for length in [100, 160, 170]]
        self.assertEqual(found, [[(0, "good", 224)], [(0, "good", 0)], [(0, "break", 0)]])

    def test_silent_numbers(self):
        found = [silent_numbers(*EDGE, length, 50) for length in [40, 70, 100, 160]]
        self.assertEqual(found, [[(0, [1]), (1, [])], [(0, [1])], [], [(1, [0])]])

    def test_lengths_as(self):
        found = [lengths_as(*EDGE, 50, 0, numbers, 10 ** 20) for numbers in [[], [1], [0], [0, 0]]]
        self.assertEqual(found, [[(1, 25)], [(26, 75)], [(76, 125)], []])


class ReadAloneTest(unittest.TestCase):
    def test_look_by_look(self):
        for shape in [(1, "none", 1), (2, "even", 2), (3, "odd", 1)]:
            for receiver in RECEIVERS:
                for length in range(1, 16):
                    for phase in range(receiver[0]):
                        for number in range(2 ** shape[0]):
                            signal = sent(shape, length, [(0, number)])
                            expected = plain_readings(shape, receiver, phase, signal)
                            self.assertEqual(read_alone(shape, receiver, length, phase, number), expected)

    def test_all_shapes(self):
        for shape in ALL_SHAPES:
            for number in (0, 2 ** shape[0] - 1, 1):
                for phase in (0, 9):
                    self.assertEqual(read_alone(shape, SIXTEEN, 160, phase, number), [(phase, "good", number)])

    def test_large_lengths(self):
        self.assertEqual(read_alone(UART, (BIG, 8, 16), 16 * BIG, BIG - 1, 77), [(BIG - 1, "good", 77)])
        breaks = [(place * BIG, "break", 0) for place in (0, 2, 5, 8)]
        self.assertEqual(read_alone(UART, (1, 8, 16), BIG, 0, 77), breaks)
        self.assertEqual(read_alone(UART, (BIG, 8, 16), 1, BIG - 1, 77), [])


class SilentTest(unittest.TestCase):
    def check_silent(self, shape, receiver, length, phase):
        expected = []
        for number in range(2 ** shape[0]):
            numbers = good_numbers(readings(shape, receiver, phase, sent(shape, length, [(0, number)])))
            if numbers is not None and numbers != [number]:
                expected.append((number, numbers))
        self.assertEqual(silent_numbers(shape, receiver, length, phase), expected)
        return expected

    def test_number_by_number(self):
        kinds = set()
        for shape in [(1, "none", 1), (2, "even", 1), (3, "none", 2), (4, "odd", 1)]:
            for receiver in RECEIVERS:
                for length in range(1, 20):
                    for phase in {0, receiver[0] - 1, receiver[0] // 2}:
                        found = self.check_silent(shape, receiver, length, phase)
                        kinds |= {len(numbers) for _, numbers in found}
        self.assertLessEqual({0, 1, 2}, kinds)

    def test_the_largest_shapes(self):
        for shape in [(9, "none", 1), (9, "even", 2)]:
            for length in (7, 50, 120, 200):
                self.check_silent(shape, SIXTEEN, length, 4)
        self.assertEqual(silent_numbers((9, "none", 1), SIXTEEN, 160, 4), [])

    def test_large_grains_and_lengths(self):
        self.assertEqual(silent_numbers(EDGE[0], (100 * BIG, 0, 1), 40 * BIG, 50 * BIG), [(0, [1]), (1, [])])
        self.assertEqual(silent_numbers((3, "none", 1), (BIG, 0, 1), 1, BIG - 1), [(n, []) for n in range(8)])
        self.assertEqual(silent_numbers((3, "none", 1), (1, 0, 1), BIG, 0), [])


class LengthsAsTest(unittest.TestCase):
    def most_length(self, shape, receiver):
        return receiver[0] * (receiver[1] + receiver[2] * size_of(shape) + 1)

    def read_at(self, shape, receiver, phase, number):
        """What is read at each length up to one at which all looks see 0."""
        return {length: good_numbers(readings(shape, receiver, phase, sent(shape, length, [(0, number)])))
                for length in range(1, self.most_length(shape, receiver) + 1)}

    def check_case(self, shape, receiver, phase, number):
        read = self.read_at(shape, receiver, phase, number)
        texts = [[], [number], [number, number], [0], [2 ** shape[0] - 1] * 8]
        texts += [text for text in read.values() if text is not None]
        for text in [text for at, text in enumerate(texts) if text not in texts[:at]]:
            expected = stretches_in([length for length in read if read[length] == text])
            self.assertEqual(lengths_as(shape, receiver, phase, number, text, 10 ** 29), expected)
            for most in (1, 2, 7, self.most_length(shape, receiver)):
                cut = [(least, min(greatest, most)) for least, greatest in expected if least <= most]
                self.assertEqual(lengths_as(shape, receiver, phase, number, text, most), cut)
        return max(len(text) for text in texts[5:]) if texts[5:] else 0

    def test_length_by_length(self):
        most_read = 0
        for shape in [(1, "none", 1), (1, "odd", 2), (2, "even", 1), (3, "none", 1)]:
            for receiver in RECEIVERS:
                for phase in {0, receiver[0] // 2, receiver[0] - 1}:
                    for number in range(2 ** shape[0]):
                        most_read = max(most_read, self.check_case(shape, receiver, phase, number))
        self.assertGreaterEqual(most_read, 2)

    def test_all_shapes(self):
        rng = random.Random(12)
        for shape in ALL_SHAPES:
            for _ in range(3):
                receiver = (rng.randint(1, 9), rng.choice([0, 0, 1, 2]), rng.choice([1, 1, 2, 5]))
                self.check_case(shape, receiver, rng.randrange(receiver[0]), rng.randrange(2 ** shape[0]))

    def test_its_own_text_is_what_lengths_for_tells(self):
        for shape in ALL_SHAPES:
            for number in (0, 1, 2 ** shape[0] - 1):
                for phase in (0, BIG // 2, BIG - 1):
                    receiver = (BIG, 8, 16)
                    expected = lengths_for(shape, receiver, phase, [number], 10 ** 60)
                    self.assertEqual(lengths_as(shape, receiver, phase, number, [number], 10 ** 60), expected)

    def test_large_grains(self):
        receiver = (100 * BIG, 0, 1)
        found = [lengths_as(EDGE[0], receiver, 50 * BIG, 0, numbers, 10 ** 60) for numbers in [[], [1], [0], [0, 0]]]
        self.assertEqual(found, [[(1, 25 * BIG)], [(25 * BIG + 1, 75 * BIG)], [(75 * BIG + 1, 125 * BIG)], []])
        self.assertEqual(lengths_as(EDGE[0], receiver, 50 * BIG, 0, [1], 30 * BIG), [(25 * BIG + 1, 30 * BIG)])
        self.assertEqual(lengths_as(EDGE[0], receiver, 50 * BIG, 0, [1], 25 * BIG), [])

    def test_each_length_belongs_to_one_text_at_the_most(self):
        rng = random.Random(13)
        for _ in range(30):
            shape = rng.choice([(2, "none", 1), (3, "even", 1), (3, "none", 2)])
            receiver = (rng.randint(1, BIG), rng.choice([0, 1, 8]), rng.choice([1, 2, 16]))
            phase, number = rng.randrange(receiver[0]), rng.randrange(2 ** shape[0])
            every = range(2 ** shape[0])
            texts = [[]] + [[one] for one in every] + [[one, other] for one in every for other in every]
            found = [part for text in texts for part in lengths_as(shape, receiver, phase, number, text, 10 ** 60)]
            found = sorted(found)
            self.assertTrue(all(one[1] < other[0] for one, other in zip(found, found[1:])))
            for text in texts:
                for least, greatest in lengths_as(shape, receiver, phase, number, text, 10 ** 60):
                    for length in (least, greatest):
                        self.assertEqual(good_numbers(read_alone(shape, receiver, length, phase, number)), text)


if __name__ == "__main__":
    unittest.main()
