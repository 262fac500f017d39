"""Points 10 and 33: two ends of a line with unlike shapes."""

import itertools
import random
import unittest

from startbits.bits import parsed
from startbits.mixed import is_read_by, read_by, silent_text, wrong_text
from startbits.shapes import levels_of, size_of
from tests.reference import ALL_SHAPES, plain_frame, plain_parsed

SMALL_SHAPES = [shape for shape in ALL_SHAPES if shape[0] <= 3]
SIX_BITS = [shape for shape in ALL_SHAPES if shape[0] == 6]


def plain_words(shape, other, numbers):
    """The words and numbers of what the other shape reads of a text, look by look."""
    levels = [level for number in numbers for level in plain_frame(shape, number)]
    return [reading[1:] for reading in plain_parsed(other, levels, 0)]


def is_right(shape, other, numbers):
    return plain_words(shape, other, numbers) == [("good", number) for number in numbers]


def is_silent(shape, other, numbers):
    """Whether a text is not read right, but without a reading that is not good."""
    found = plain_words(shape, other, numbers)
    return all(word == "good" for word, _ in found) and [number for _, number in found] != numbers


def texts_up_to(shape, most):
    """All texts of so many numbers, the shortest ones first, and of those of one length the least first."""
    for many in range(1, most + 1):
        for text in itertools.product(range(2 ** shape[0]), repeat=many):
            yield list(text)


def first_with(judge, shape, other, most):
    return next((text for text in texts_up_to(shape, most) if judge(shape, other, text)), None)


class ExampleTest(unittest.TestCase):
    def test_read_by(self):
        self.assertEqual(read_by((7, "even", 1), (8, "none", 1), [65, 67]), [(0, "good", 65), (10, "good", 195)])

    def test_wrong_text(self):
        self.assertIs(is_read_by((8, "none", 2), (8, "none", 1)), True)
        self.assertEqual(wrong_text((5, "none", 1), (5, "none", 2)), [0, 0])

    def test_silent_text(self):
        self.assertEqual(silent_text((5, "even", 1), (6, "none", 1)), [1])
        self.assertIsNone(silent_text((2, "none", 1), (2, "none", 2)))


class ReadByTest(unittest.TestCase):
    def test_all_shapes_look_by_look(self):
        rng = random.Random(33)
        for shape in ALL_SHAPES:
            top = 2 ** shape[0] - 1
            for other in ALL_SHAPES:
                text = [rng.choice([0, top, rng.randint(0, top)]) for _ in range(rng.randint(1, 8))]
                found = read_by(shape, other, text)
                self.assertEqual([reading[1:] for reading in found], plain_words(shape, other, text))
                self.assertEqual(found, parsed(other, levels_of(shape, text), 0))

    def test_texts_of_no_number_and_of_sixty(self):
        rng = random.Random(34)
        for shape in [(1, "none", 1), (8, "none", 1), (9, "even", 2), (9, "none", 1)]:
            for other in [(1, "none", 1), (7, "odd", 1), (9, "none", 1), (9, "odd", 2)]:
                self.assertEqual(read_by(shape, other, []), [])
                text = [rng.randrange(2 ** shape[0]) for _ in range(60)]
                levels = [level for number in text for level in plain_frame(shape, number)]
                self.assertEqual(read_by(shape, other, text), plain_parsed(other, levels, 0))

    def test_one_shape_at_both_ends(self):
        for shape in ALL_SHAPES:
            text = [0, 2 ** shape[0] - 1, 2 ** shape[0] // 3]
            expected = [(size_of(shape) * at, "good", number) for at, number in enumerate(text)]
            self.assertEqual(read_by(shape, shape, text), expected)


class WrongTextTest(unittest.TestCase):
    def test_small_shapes_text_by_text(self):
        kinds = set()
        for shape in SMALL_SHAPES:
            for other in SMALL_SHAPES:
                expected = first_with(lambda *told: not is_right(*told), shape, other, 2)
                self.assertEqual(wrong_text(shape, other), expected, (shape, other))
                self.assertIs(is_read_by(shape, other), expected is None)
                kinds.add(None if expected is None else len(expected))
        self.assertEqual(kinds, {None, 1, 2})

    def test_longer_texts_of_shapes_that_are_read(self):
        rng = random.Random(35)
        pairs = [(shape, other) for shape in ALL_SHAPES for other in ALL_SHAPES if is_read_by(shape, other)]
        for shape, other in pairs:
            for many in (3, 8, 60):
                text = [rng.randrange(2 ** shape[0]) for _ in range(many)]
                self.assertTrue(is_right(shape, other, text), (shape, other, text))
            # Only a shape with as many bits and at the most as many stop bits reads every text right,
            # or one without parity that takes a parity bit that is always 1 for a stop bit.
            self.assertEqual(shape[0], other[0])
            self.assertLessEqual(size_of(other), size_of(shape))
        self.assertTrue(all((shape, shape) in pairs for shape in ALL_SHAPES))

    def test_shapes_that_differ_in_one_thing(self):
        self.assertIsNone(wrong_text((6, "none", 2), (6, "none", 1)))
        self.assertEqual(wrong_text((6, "none", 1), (6, "none", 2)), [0, 0])
        self.assertEqual(wrong_text((6, "even", 1), (6, "odd", 1)), [0])
        self.assertEqual(wrong_text((6, "odd", 1), (6, "none", 1)), [1])
        self.assertEqual(wrong_text((6, "none", 1), (6, "odd", 1)), first_with(
            lambda *told: not is_right(*told), (6, "none", 1), (6, "odd", 1), 1))
        self.assertEqual(wrong_text((6, "none", 1), (5, "none", 1)), [0])

    def test_shapes_of_six_bits(self):
        for shape in SIX_BITS:
            for other in SIX_BITS + [(5, "none", 1), (5, "odd", 2), (1, "none", 1)]:
                expected = first_with(lambda *told: not is_right(*told), shape, other, 1)
                if expected is None and not is_right(shape, other, [0, 0]):
                    expected = [0, 0]
                self.assertEqual(wrong_text(shape, other), expected)

    def test_shapes_of_nine_bits(self):
        nine = [shape for shape in ALL_SHAPES if shape[0] == 9]
        for shape in nine:
            for other in nine:
                singles = all(is_right(shape, other, [number]) for number in (0, 1, 2, 3, 256, 511))
                self.assertIs(is_read_by(shape, other), singles and is_right(shape, other, [0, 0]))
        self.assertIs(is_read_by((8, "none", 1), (9, "none", 1)), False)
        self.assertIs(is_read_by((9, "none", 1), (8, "none", 1)), False)


class SilentTextTest(unittest.TestCase):
    def test_small_shapes_text_by_text(self):
        for shape in [shape for shape in ALL_SHAPES if shape[0] <= 2]:
            for other in SMALL_SHAPES + [(4, "none", 1), (6, "even", 2), (9, "none", 1)]:
                expected = first_with(is_silent, shape, other, 4)
                self.assertEqual(silent_text(shape, other), expected, (shape, other))

    def test_three_bits_text_by_text(self):
        kinds = set()
        for shape in [shape for shape in ALL_SHAPES if shape[0] == 3]:
            for other in SMALL_SHAPES + [(4, "even", 1), (6, "none", 2)]:
                expected = first_with(is_silent, shape, other, 2)
                found = silent_text(shape, other)
                kinds.add(None if found is None else len(found))
                if expected is None and found is not None:
                    self.assertGreater(len(found), 2)
                    self.assertTrue(is_silent(shape, other, found))
                else:
                    self.assertEqual(found, expected, (shape, other))
        self.assertTrue({None, 1, 2} <= kinds)

    def test_four_numbers_of_three_bits(self):
        for shape, other in [((3, "none", 1), (3, "even", 1)), ((3, "none", 2), (3, "none", 2)),
                             ((3, "none", 1), (6, "even", 2))]:
            self.assertEqual(silent_text(shape, other), first_with(is_silent, shape, other, 4))

    def test_six_bits(self):
        for shape in SIX_BITS:
            for other in [shape for shape in ALL_SHAPES if shape[0] <= 6]:
                found = silent_text(shape, other)
                if found is not None:
                    self.assertTrue(is_silent(shape, other, found))
                    self.assertLessEqual(len(found), 4)
                if found != [0]:
                    expected = first_with(is_silent, shape, other, 1)
                    self.assertEqual(expected, found if found is not None and len(found) == 1 else None)
            self.assertIsNone(silent_text(shape, shape))

    def test_two_numbers_of_six_bits(self):
        shape = (6, "none", 1)
        for other in [(6, "none", 2), (6, "odd", 1), (4, "none", 1), (5, "odd", 1)]:
            found = silent_text(shape, other)
            most = 2 if found is None else len(found)
            self.assertEqual(first_with(is_silent, shape, other, most), found)


if __name__ == "__main__":
    unittest.main()
