"""Points 10 and 29: levels without ticks, and the places of a receiver."""

import itertools
import random
import unittest

from startbits.bits import parsed, place_behind, places_along
from startbits.readings import readings
from startbits.shapes import levels_of, size_of
from startbits.signals import sent_text
from tests.reference import ALL_SHAPES, PlainReceiver, plain_frame, plain_parsed


def plain_place_behind(shape, place, levels):
    """The place behind some levels of a receiver that has seen some zeros up to a place, look by look."""
    line = PlainReceiver(shape, (1, 0, 1))
    for at, level in enumerate(plain_frame(shape, 0)[:place]):
        line.look(at, level)
    for at, level in enumerate(levels):
        line.look(place + at, level)
    return len(line.seen) if line.state == "frame" else 0


class ExampleTest(unittest.TestCase):
    def test_parsed(self):
        found = [parsed((1, "none", 1), [0, 1, 1, 0, 0, 1], begin) for begin in [0, 4]]
        self.assertEqual(found, [[(0, "good", 1), (3, "good", 0)], [(4, "good", 1)]])

    def test_places(self):
        found = [places_along((8, "none", 1), 3, [85, 85]), place_behind((8, "none", 1), 9, [0])]
        self.assertEqual(found, [[3, 2, 2], 0])


class ParsedTest(unittest.TestCase):
    def test_each_list_of_few_levels_from_each_begin(self):
        for shape in [(1, "none", 1), (1, "even", 1), (1, "none", 2), (2, "odd", 2)]:
            for many in range(8):
                for levels in itertools.product((0, 1), repeat=many):
                    for begin in range(many + 1):
                        expected = plain_parsed(shape, list(levels), begin)
                        self.assertEqual(parsed(shape, list(levels), begin), expected)

    def test_longer_lists_of_all_shapes(self):
        rng = random.Random(14)
        for shape in ALL_SHAPES:
            for share in (0.1, 0.5, 0.9):
                levels = [int(rng.random() < share) for _ in range(60)]
                for begin in range(0, 61, 4):
                    self.assertEqual(parsed(shape, levels, begin), plain_parsed(shape, levels, begin))

    def test_texts_of_sixty_numbers(self):
        for shape in ALL_SHAPES:
            top = 2 ** shape[0] - 1
            numbers = [0, top, top // 3, 1, top - 1] * 12
            size = size_of(shape)
            expected = [(size * at, "good", number) for at, number in enumerate(numbers)]
            self.assertEqual(parsed(shape, levels_of(shape, numbers), 0), expected)
            self.assertEqual(parsed(shape, levels_of(shape, numbers), 59 * size), expected[59:])

    def test_no_level_and_800_levels(self):
        for shape in [(1, "none", 1), (8, "none", 1), (9, "even", 2)]:
            self.assertEqual(parsed(shape, [], 0), [])
            for levels in [[0] * 800, [1] * 800, [0, 1] * 400, [1, 0] * 400, [0] * 799 + [1], [1] * 799 + [0]]:
                for begin in (0, 1, 2, 400, 798, 799, 800):
                    self.assertEqual(parsed(shape, levels, begin), plain_parsed(shape, levels, begin))

    def test_readings_that_end_behind_the_list(self):
        self.assertEqual(parsed((8, "none", 1), [1, 0], 0), [(1, "good", 255)])
        self.assertEqual(parsed((8, "none", 1), [0] * 9, 0), [(0, "good", 0)])
        self.assertEqual(parsed((8, "none", 1), [0] * 10, 0), [(0, "break", 0)])
        self.assertEqual(parsed((1, "even", 1), [0, 0], 0), [(0, "parity", 0)])
        self.assertEqual(parsed((1, "none", 1), [0, 1, 0], 0), [(0, "frame", 1)])

    def test_it_is_the_receiver_that_looks_at_each_tick(self):
        for shape in ALL_SHAPES:
            numbers = [0, 2 ** shape[0] - 1, 1]
            expected = readings(shape, (1, 0, 1), 4, sent_text(shape, 1, numbers, 0))
            self.assertEqual(parsed(shape, levels_of(shape, numbers), 4), expected)


class PlaceTest(unittest.TestCase):
    def test_each_place_ahead_of_each_number(self):
        for shape in ALL_SHAPES:
            for place in range(size_of(shape)):
                for number in range(2 ** shape[0]):
                    expected = plain_place_behind(shape, place, plain_frame(shape, number))
                    self.assertEqual(place_behind(shape, place, [number]), expected)

    def test_texts(self):
        rng = random.Random(15)
        for shape in ALL_SHAPES:
            for place in range(size_of(shape)):
                numbers = [rng.randrange(2 ** shape[0]) for _ in range(rng.choice([2, 3, 60]))]
                expected = [place]
                for number in numbers:
                    expected.append(plain_place_behind(shape, expected[-1], plain_frame(shape, number)))
                self.assertEqual(places_along(shape, place, numbers), expected)
                self.assertEqual(place_behind(shape, place, numbers), expected[-1])

    def test_texts_of_no_number(self):
        for place in range(10):
            self.assertEqual(places_along((8, "none", 1), place, []), [place])
            self.assertEqual(place_behind((8, "none", 1), place, []), place)

    def test_a_receiver_in_step_stays_so(self):
        for shape in ALL_SHAPES:
            numbers = list(range(2 ** shape[0]))[:60]
            self.assertEqual(places_along(shape, 0, numbers), [0] * (len(numbers) + 1))

    def test_a_place_in_the_stop_bits(self):
        # The receiver has seen the first of two stop bits; now it sees the start bit instead of the second.
        self.assertEqual(places_along((2, "none", 2), 4, [3, 0]), [4, 0, 0])
        self.assertEqual(places_along((2, "none", 2), 4, [2]), [4, 0])
        # Here it waits for the first bit, is idle behind it, and the second bit begins a frame.
        self.assertEqual(places_along((2, "none", 2), 4, [1]), [4, 3])


if __name__ == "__main__":
    unittest.main()
