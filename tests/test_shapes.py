"""Points 6, 7, 11 and 12: shapes, numbers, frames and texts."""

import unittest

from startbits.shapes import frame_of, is_number, is_shape, levels_of, number_of, parity_of, size_of
from tests.reference import ALL_SHAPES, plain_frame
from tests.values import HUGE, NO_INTEGERS, NO_LISTS, recursive_list, shape_faults


class ExampleTest(unittest.TestCase):
    def test_the_definition_of_a_frame(self):
        self.assertEqual(frame_of((2, "even", 1), 1), [0, 1, 0, 1, 1])
        self.assertEqual(size_of((2, "even", 1)), 5)

    def test_is_shape(self):
        values = [(8, "none", 1), (10, "none", 1), [8, "none", 1], (8, "odd", True)]
        self.assertEqual([is_shape(value) for value in values], [True, False, False, False])

    def test_size_and_parity(self):
        found = [size_of((8, "none", 1)), size_of((7, "even", 2)),
                 parity_of((7, "even", 2), 67), parity_of((7, "odd", 2), 67)]
        self.assertEqual(found, [10, 11, 1, 0])

    def test_frames_and_levels(self):
        found = [frame_of((2, "even", 1), 1), levels_of((1, "none", 1), [1, 0])]
        self.assertEqual(found, [[0, 1, 0, 1, 1], [0, 1, 1, 0, 0, 1]])

    def test_number_of(self):
        values = [[0, 1, 0, 1, 1], [0, 1, 0, 0, 1], [0, 1, 0, 1]]
        self.assertEqual([number_of((2, "even", 1), value) for value in values], [1, None, None])


class ShapeTest(unittest.TestCase):
    def test_all_shapes(self):
        self.assertEqual(len(ALL_SHAPES), 54)
        for shape in ALL_SHAPES:
            self.assertIs(is_shape(shape), True)
            bits, parity, stops = shape
            self.assertEqual(size_of(shape), 1 + bits + (parity != "none") + stops)

    def test_what_is_no_shape(self):
        for value, _, _ in shape_faults():
            self.assertIs(is_shape(value), False)

    def test_least_and_greatest_size(self):
        sizes = [size_of(shape) for shape in ALL_SHAPES]
        self.assertEqual((min(sizes), max(sizes)), (3, 13))


class NumberTest(unittest.TestCase):
    def test_least_and_greatest_number(self):
        for shape in ALL_SHAPES:
            most = 2 ** shape[0] - 1
            found = [is_number(shape, value) for value in (-1, 0, most, most + 1)]
            self.assertEqual(found, [False, True, True, False])

    def test_answers_are_bools(self):
        self.assertIs(is_number((1, "none", 1), 1), True)
        self.assertIs(is_number((1, "none", 1), 2), False)

    def test_what_is_no_number(self):
        for value in NO_INTEGERS + [HUGE, -HUGE, 10 ** 29]:
            self.assertIs(is_number((9, "odd", 2), value), False)


class ParityTest(unittest.TestCase):
    def test_ones_are_made_even_or_odd(self):
        for bits in range(1, 10):
            for number in range(2 ** bits):
                ones = bin(number).count("1")
                for stops in (1, 2):
                    even = parity_of((bits, "even", stops), number)
                    odd = parity_of((bits, "odd", stops), number)
                    self.assertEqual(((ones + even) % 2, (ones + odd) % 2), (0, 1))
                    self.assertEqual({even, odd}, {0, 1})
                    self.assertIsNone(parity_of((bits, "none", stops), number))


class FrameTest(unittest.TestCase):
    def test_all_frames_and_back(self):
        for shape in ALL_SHAPES:
            for number in range(2 ** shape[0]):
                frame = frame_of(shape, number)
                self.assertEqual(frame, plain_frame(shape, number))
                self.assertEqual(len(frame), size_of(shape))
                self.assertEqual({type(level) for level in frame}, {int})
                self.assertEqual(number_of(shape, frame), number)

    def test_one_level_turned_over(self):
        for shape in [(1, "none", 1), (3, "none", 2), (3, "even", 1), (4, "odd", 2)]:
            frames = {tuple(plain_frame(shape, number)): number for number in range(2 ** shape[0])}
            for frame in list(frames):
                for place in range(len(frame)):
                    levels = list(frame)
                    levels[place] = 1 - levels[place]
                    self.assertEqual(number_of(shape, levels), frames.get(tuple(levels)))

    def test_each_list_of_levels_of_a_small_shape(self):
        for shape in [(1, "none", 1), (2, "even", 1), (1, "odd", 2), (2, "none", 2)]:
            frames = {tuple(plain_frame(shape, number)): number for number in range(2 ** shape[0])}
            for many in range(size_of(shape) + 2):
                for code in range(2 ** many):
                    levels = [code >> place & 1 for place in range(many)]
                    self.assertEqual(number_of(shape, levels), frames.get(tuple(levels)))

    def test_what_is_no_frame(self):
        shape = (2, "none", 1)
        self.assertEqual(number_of(shape, [0, 1, 0, 1]), 1)
        values = NO_LISTS + [recursive_list(), [], (0, 1, 0, 1), [0, 1, 0, 1, 1], [0, 1, 0], "0101", b"\x00\x01\x00\x01"]
        values += [[0, 1, 0, 2], [0, 2, 0, 1], [0, -1, 0, 1], [0, HUGE, 0, 1], [[0, 1, 0, 1]] * 4]
        values += [[wrong, 1, 0, 1] for wrong in NO_INTEGERS] + [[0, 1, 0, wrong] for wrong in NO_INTEGERS]
        values += [[0, wrong, 0, 1] for wrong in NO_INTEGERS]
        for value in values:
            self.assertIsNone(number_of(shape, value))

    def test_bools_are_no_levels(self):
        self.assertIsNone(number_of((1, "none", 1), [False, True, True]))
        self.assertIsNone(number_of((1, "none", 1), [0, 1, True]))
        self.assertIsNone(number_of((1, "none", 1), [False, 1, 1]))


class TextTest(unittest.TestCase):
    def test_levels_are_frames_behind_each_other(self):
        for shape in ALL_SHAPES:
            most = 2 ** shape[0] - 1
            for numbers in ([], [0], [most], [0, most, 0], [1, 1, most], [most] * 60):
                levels = [level for number in numbers for level in plain_frame(shape, number)]
                self.assertEqual(levels_of(shape, numbers), levels)

    def test_texts_of_none_and_of_sixty(self):
        self.assertEqual(levels_of((8, "none", 1), []), [])
        self.assertEqual(len(levels_of((9, "odd", 2), [511] * 60)), 780)


if __name__ == "__main__":
    unittest.main()
