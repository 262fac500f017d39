"""Point 27: the lengths at which a text is read right."""

import random
import unittest

from startbits.lengths import lengths_for, next_change
from startbits.readings import is_read_right, readings
from startbits.shapes import size_of
from startbits.signals import sent_text
from startbits.speeds import safe_lengths
from tests.reference import ALL_SHAPES, plain_is_right, stretches_in

UART, SIXTEEN = (8, "none", 1), (10, 8, 16)
BIG = 10 ** 26
EDGE = ((1, "none", 1), (100, 0, 1), 50, [1, 0])


def most_length(shape, receiver):
    """A length from which on all looks of the first frame see 0."""
    grain, wait, step = receiver
    return grain * (wait + step * size_of(shape) + 1)


def is_right(shape, receiver, phase, numbers, length):
    """Whether the text is read right at one length, by the readings of its signal."""
    return is_read_right(shape, receiver, phase, sent_text(shape, length, numbers, 0), numbers)


def right_stretches(shape, receiver, phase, numbers):
    """The stretches of lengths at which the text is read right, length by length."""
    lengths = range(1, most_length(shape, receiver) + 1)
    return stretches_in([length for length in lengths if is_right(shape, receiver, phase, numbers, length)])


def change_behind(stretches, length):
    """The next change behind a length, by the stretches of all lengths."""
    turns = [turn for least, greatest in stretches for turn in (least, greatest + 1)]
    return min([turn for turn in turns if turn > length], default=None)


def random_case(rng, shapes, most_grain):
    """A shape, a receiver, a phase and a text of 1 to 8 numbers."""
    shape = rng.choice(shapes)
    receiver = (rng.randint(1, most_grain), rng.choice([0, 0, 1, 2, 3, 8]), rng.choice([1, 1, 2, 3, 5, 8]))
    top = 2 ** shape[0] - 1
    many = rng.choice([1, 1, 2, 2, 3, 5, 8])
    numbers = [rng.choice([0, top, rng.randint(0, top)]) for _ in range(many)]
    return shape, receiver, rng.randrange(receiver[0]), numbers


class ExampleTest(unittest.TestCase):
    def test_lengths_for(self):
        found = [lengths_for(UART, SIXTEEN, 0, numbers, 300) for numbers in [[255], [0], [255, 0]]]
        self.assertEqual(found, [[(81, 240)], [(152, 168)], [(153, 168)]])
        found = [lengths_for(*EDGE, most) for most in [10 ** 29, 120, 90]]
        self.assertEqual(found, [[(91, 110), (117, 130)], [(91, 110), (117, 120)], []])

    def test_next_change(self):
        found = [next_change(*EDGE, length) for length in [1, 91, 110, 111, 117, 131]]
        self.assertEqual(found, [91, 111, 111, 117, 131, None])

    def test_what_the_last_example_tells(self):
        shape, receiver, phase, numbers = EDGE
        firsts = {length: readings(shape, receiver, phase, sent_text(shape, length, numbers, 0))[:1]
                  for length in range(51, 200)}
        right = [length for length in firsts if firsts[length] == [(50, "good", 1)]]
        self.assertEqual(stretches_in(right), [(84, 150)])


class SmallTest(unittest.TestCase):
    def check_case(self, shape, receiver, phase, numbers):
        expected = right_stretches(shape, receiver, phase, numbers)
        self.assertEqual(lengths_for(shape, receiver, phase, numbers, 10 ** 29), expected)
        last = expected[-1][1] if expected else 1
        for most in {1, max(1, last - 1), last, last + 1, most_length(shape, receiver)}:
            cut = [(least, min(greatest, most)) for least, greatest in expected if least <= most]
            self.assertEqual(lengths_for(shape, receiver, phase, numbers, most), cut)
        for length in {1, 2, max(1, last - 1), last, last + 1, most_length(shape, receiver), 10 ** 29}:
            self.assertEqual(next_change(shape, receiver, phase, numbers, length), change_behind(expected, length))

    def test_all_texts_of_one_and_two_numbers(self):
        for shape in [(1, "none", 1), (1, "even", 1), (2, "odd", 2)]:
            every = range(2 ** shape[0])
            texts = [[one] for one in every] + [[one, other] for one in every for other in every]
            for receiver in [(1, 0, 1), (2, 1, 2), (3, 0, 1), (4, 1, 3)]:
                for phase in range(receiver[0]):
                    for text in texts:
                        self.check_case(shape, receiver, phase, text)

    def test_some_texts_of_all_shapes(self):
        rng = random.Random(7)
        for shape in ALL_SHAPES:
            for _ in range(4):
                self.check_case(*random_case(rng, [shape], 6))

    def test_texts_of_eight_numbers(self):
        rng = random.Random(8)
        for shape in [(1, "none", 1), (2, "even", 1), (3, "none", 2)]:
            top = 2 ** shape[0] - 1
            for receiver in [(9, 0, 1), (5, 1, 2), (7, 2, 3)]:
                for numbers in [[0] * 8, [top] * 8, [top, 0] * 4, [rng.randint(0, top) for _ in range(8)]]:
                    self.check_case(shape, receiver, rng.randrange(receiver[0]), numbers)

    def test_length_by_length_look_by_look(self):
        for numbers in [[0], [2], [3, 0], [1, 1, 2]]:
            shape, receiver, phase = (2, "none", 1), (5, 1, 2), 3
            lengths = [length for length in range(1, 60)
                       if plain_is_right(shape, receiver, phase, sent_text(shape, length, numbers, 0), numbers)]
            self.assertEqual(lengths_for(shape, receiver, phase, numbers, 59), stretches_in(lengths))

    def test_all_lengths_of_some_changes(self):
        for shape, receiver, phase, numbers in [EDGE, (UART, SIXTEEN, 0, [255, 0]), (UART, SIXTEEN, 7, [85] * 8)]:
            expected = right_stretches(shape, receiver, phase, numbers)
            for length in range(1, 300):
                found = next_change(shape, receiver, phase, numbers, length)
                self.assertEqual(found, change_behind(expected, length))

    def test_between_two_stretches_there_is_a_length(self):
        rng = random.Random(9)
        for _ in range(300):
            found = lengths_for(*random_case(rng, ALL_SHAPES, 50), 10 ** 29)
            for (_, greatest), (least, _) in zip(found, found[1:]):
                self.assertGreater(least, greatest + 1)


class LargeTest(unittest.TestCase):
    def check_ends(self, shape, receiver, phase, numbers):
        found = lengths_for(shape, receiver, phase, numbers, 10 ** 60)
        for least, greatest in found:
            ends = [(least - 1, False), (least, True), ((least + greatest) // 2, True), (greatest, True)]
            for length, expected in ends + [(greatest + 1, False)]:
                if length > 0:
                    self.assertIs(is_right(shape, receiver, phase, numbers, length), expected)
        for (_, low), (high, _) in zip([(0, 0)] + found, found + [(10 ** 29, 0)]):
            # The lengths between two stretches, some of them.
            for part in range(1, 6):
                length = low + (high - low) * part // 6
                if low < length < high:
                    self.assertFalse(is_right(shape, receiver, phase, numbers, length))
        return found

    def test_ends_of_stretches(self):
        rng = random.Random(10)
        for shape in ALL_SHAPES:
            for _ in range(6):
                shape, (_, wait, step), _, numbers = random_case(rng, [shape], 1)
                grain = rng.choice([BIG - 1, BIG // 10 * 7 + 3, rng.randint(1, BIG)])
                wait, step = rng.choice([wait, 50, 100]), rng.choice([step, 16, 100])
                self.check_ends(shape, (grain, wait, step), rng.choice([0, grain - 1, rng.randrange(grain)]), numbers)

    def test_hard_texts(self):
        many = []
        cases = [((9, "odd", 1), (3, 3, 1), [341] * 8), ((9, "even", 2), (1, 100, 100), [511] * 8),
                 ((9, "odd", 1), (1, 8, 8), [341] * 8), ((8, "none", 2), (1, 100, 2), [255] * 8),
                 ((1, "none", 1), (1, 100, 100), [1, 0] * 4)]
        for shape, receiver, numbers in cases:
            grain = receiver[0] * BIG // 3
            for phase in (0, grain // 3, grain - 1):
                found = self.check_ends(shape, (grain, receiver[1], receiver[2]), phase, numbers)
                many.append(len(found))
        self.assertGreater(max(many), 10)

    def test_waits_and_steps_beyond_the_limit(self):
        for wait, step in [(0, 10 ** 20), (10 ** 20, 10 ** 20), (5 * 10 ** 19, 10 ** 20 + 1), (10 ** 20, 1)]:
            for numbers in [[511] * 8, [0] * 8, [341, 170] * 4]:
                self.check_ends((9, "even", 2), (1000, wait, step), 7, numbers)

    def test_multiples_of_a_small_case(self):
        # A length is read right at all lengths if the whole time is multiplied: so each small stretch
        # lies in a large one.
        by = BIG // 100 + 1
        rng = random.Random(11)
        for _ in range(40):
            shape, (grain, wait, step), phase, numbers = random_case(rng, ALL_SHAPES, 9)
            large = lengths_for(shape, (grain * by, wait, step), phase * by, numbers, 10 ** 60)
            for length in range(1, most_length(shape, (grain, wait, step)), 3):
                expected = is_right(shape, (grain, wait, step), phase, numbers, length)
                found = any(least <= length * by <= greatest for least, greatest in large)
                self.assertIs(found, expected)

    def test_safe_lengths_belong_to_it(self):
        for shape in ALL_SHAPES:
            receiver = (BIG, 8, 16)
            least, greatest = safe_lengths(shape, receiver)
            for phase in (0, BIG - 1):
                for numbers in [[0], [2 ** shape[0] - 1] * 8, [1, 0, 1]]:
                    found = lengths_for(shape, receiver, phase, numbers, 10 ** 29)
                    self.assertTrue(any(low <= least and greatest <= high for low, high in found))

    def test_cut_in_the_midst_of_a_stretch(self):
        receiver = (BIG, 8, 16)
        # The look at 136 grains must see the last bit, and the one at 152 grains the stop bit.
        least, greatest = 136 * BIG // 9 + 1, 152 * BIG // 9
        found = [lengths_for(UART, receiver, 0, [0], most) for most in (least - 1, least, 16 * BIG, greatest, 10 ** 60)]
        expected = [[], [(least, least)], [(least, 16 * BIG)], [(least, greatest)], [(least, greatest)]]
        self.assertEqual(found, expected)
        lengths = [1, least - 1, least, 16 * BIG, greatest, greatest + 1, 10 ** 60]
        found = [next_change(UART, receiver, 0, [0], length) for length in lengths]
        self.assertEqual(found, [least, least, greatest + 1, greatest + 1, greatest + 1, None, None])


if __name__ == "__main__":
    unittest.main()
