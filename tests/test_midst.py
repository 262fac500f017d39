"""Points 10, 30, 31 and 32: receivers that begin in the midst of a text."""

import functools
import itertools
import random
import unittest

from startbits.bits import place_behind, places_along
from startbits.midst import greatest_silence, lasting_places, shows_silence, silence_paper, step_text
from startbits.shapes import size_of
from tests.reference import ALL_SHAPES, PlainReceiver, plain_frame
from tests.values import HUGE, NO_INTEGERS, NO_LISTS, NO_TUPLES

SMALL_SHAPES = [(1, "none", 1), (1, "even", 1), (1, "odd", 2), (2, "none", 1), (2, "even", 1), (2, "odd", 2),
                (3, "none", 2)]


def plain_states(shape):
    """All states ahead of a number, by the words of point 31."""
    has_parity = shape[1] != "none"
    places = range(1, plain_size(shape))
    return [(place, ones) for place in places for ones in (0, 1) if ones == 0 or (has_parity and place > 1)]


def plain_size(shape):
    return len(plain_frame(shape, 0))


@functools.cache
def plain_state_behind(shape, state, number):
    """The state behind a number, None if it does not pass in silence: with a receiver that is put into the state."""
    place, ones = state
    bits, parity, _ = shape
    line = PlainReceiver(shape, (1, 0, 1))
    # Any levels with this place and these ones will do: the parity bit is told from all of them.
    seen = [0] + [0] * min(place - 1, bits + (parity != "none"))
    if ones:
        seen[1] = 1
    seen += [1] * (place - len(seen))
    for at, level in enumerate(seen):
        line.look(at, level)
    assert line.state == "frame" and len(line.seen) == place
    for at, level in enumerate(plain_frame(shape, number)):
        line.look(place + at, level)
    if any(word != "good" for _, word, _ in line.readings) or line.state != "frame":
        return None
    behind_data = line.seen[1:bits + 1 + (parity != "none")]
    return len(line.seen), sum(behind_data) % 2 if parity != "none" else 0


def passes(shape, state, text):
    """Whether a text passes in silence from a state, number by number."""
    for number in text:
        state = plain_state_behind(shape, state, number)
        if state is None:
            return False
    return True


def plain_greatest(shape, numbers):
    """The length of the longest text that passes in silence, by going on until there is none."""
    states = plain_states(shape)
    alive = states
    for many in range(len(states) + 1):
        alive = [state for state in states
                 if any(plain_state_behind(shape, state, number) in alive for number in numbers)]
        if not alive:
            return many
    return None


def texts_of_length(numbers, many):
    return [list(text) for text in itertools.product(sorted(numbers), repeat=many)]


def subsets(shape, rng):
    """Lists of allowed numbers: all of them for the smallest shapes, some for others."""
    every = range(2 ** shape[0])
    if shape[0] == 1:
        return [[0], [1], [0, 1], [1, 0]]
    return [rng.sample(every, rng.randint(1, min(len(every), 4))) for _ in range(8)]


class ExampleTest(unittest.TestCase):
    def test_step_text(self):
        shape = (8, "none", 1)
        found = [step_text(shape, [0, 85]), step_text(shape, [85]), step_text((2, "none", 1), [1, 2])]
        self.assertEqual(found, [[0], None, [2]])

    def test_lasting_places(self):
        found = [lasting_places((8, "none", 1), [85]), lasting_places((8, "none", 1), [85, 0])]
        self.assertEqual(found, [[2, 3, 4, 5, 6, 7, 8, 9], []])

    def test_silence(self):
        self.assertEqual([greatest_silence((2, "even", 1), [3]), greatest_silence((1, "even", 1), [0, 1])], [None, 0])
        values = [(3, 0, [3, 3]), (3, 1, [3, 3]), (2, 1, [3])]
        self.assertEqual([shows_silence((2, "even", 1), [3], 2, value) for value in values], [True, False, False])

    def test_the_states_of_the_example(self):
        self.assertEqual(plain_state_behind((2, "even", 1), (3, 0), 3), (2, 1))
        self.assertEqual(plain_state_behind((2, "even", 1), (2, 1), 3), (2, 1))


class StepTest(unittest.TestCase):
    def steps(self, shape, text):
        return all(place_behind(shape, place, text[:60]) == 0 for place in range(size_of(shape)))

    def test_text_by_text(self):
        rng = random.Random(16)
        found_none = 0
        for shape in SMALL_SHAPES + [(3, "even", 1), (4, "none", 1)]:
            for numbers in subsets(shape, rng):
                found = step_text(shape, numbers)
                # No text of fewer numbers, or of as many and less, brings all receivers into step.
                shorter = 4 if found is None else len(found)
                for many in range(1, min(shorter, 5) + 1):
                    for text in texts_of_length(numbers, many):
                        if text == found:
                            break
                        self.assertFalse(self.steps(shape, text), (shape, numbers, text))
                if found is None:
                    found_none += 1
                else:
                    self.assertTrue(self.steps(shape, found))
                    self.assertTrue(all(number in numbers for number in found))
        self.assertGreater(found_none, 0)

    def test_none_if_one_number_alone_lasts(self):
        for shape in ALL_SHAPES:
            for number in {0, 1, 2 ** shape[0] - 1, 2 ** shape[0] // 3}:
                is_none = step_text(shape, [number]) is None
                self.assertEqual(is_none, lasting_places(shape, [number]) != [])

    def test_the_sequence_of_the_numbers_plays_no_part(self):
        rng = random.Random(17)
        for shape in [(3, "none", 1), (5, "odd", 2), (9, "even", 1)]:
            for _ in range(10):
                numbers = rng.sample(range(2 ** shape[0]), rng.randint(2, 8))
                expected = step_text(shape, sorted(numbers))
                rng.shuffle(numbers)
                self.assertEqual(step_text(shape, numbers), expected)

    def test_one_and_twenty_numbers(self):
        self.assertEqual(step_text((8, "none", 1), [0]), [0])
        self.assertIsNone(step_text((8, "none", 1), [85]))
        for shape in [(5, "none", 1), (7, "even", 2), (9, "none", 2), (9, "odd", 1)]:
            top = 2 ** shape[0] - 1
            for numbers in (list(range(20)), list(range(top - 19, top + 1))):
                found = step_text(shape, numbers)
                self.assertTrue(found is None or self.steps(shape, found))

    def test_longer_texts(self):
        cases = [((8, "even", 2), [140, 58, 104], [104, 58, 140]), ((9, "none", 1), [409, 66], [66, 409] * 2),
                 ((9, "even", 1), [101, 274], [274, 101, 274, 101, 274]), ((7, "even", 1), [21, 42], [42, 21] * 3)]
        for shape, numbers, expected in cases:
            self.assertEqual(step_text(shape, numbers), expected)
            self.assertTrue(self.steps(shape, expected))
            for many in range(1, len(expected) + 1):
                for text in texts_of_length(numbers, many):
                    if text == expected:
                        break
                    self.assertFalse(self.steps(shape, text))


class LastingTest(unittest.TestCase):
    def plain_lasting(self, shape, numbers):
        lasting = []
        for place in range(size_of(shape)):
            behind, seen = place, [place]
            for _ in range(size_of(shape) + 1):
                places = places_along(shape, behind, numbers)
                seen += places
                behind = places[-1]
            if 0 not in seen:
                lasting.append(place)
        return lasting

    def test_place_by_place(self):
        rng = random.Random(19)
        for shape in ALL_SHAPES:
            top = 2 ** shape[0] - 1
            texts = [[0], [top], [top // 3], [top - top // 3], [0, top]]
            texts += [[rng.randint(0, top) for _ in range(rng.choice([2, 3, 8]))] for _ in range(4)]
            for numbers in texts:
                self.assertEqual(lasting_places(shape, numbers), self.plain_lasting(shape, numbers))

    def test_all_small_texts(self):
        for shape in SMALL_SHAPES:
            for many in (1, 2):
                for numbers in texts_of_length(range(2 ** shape[0]), many):
                    self.assertEqual(lasting_places(shape, numbers), self.plain_lasting(shape, numbers))

    def test_repeated_numbers_and_eight_of_them(self):
        for numbers in ([85, 85], [85] * 8):
            self.assertEqual(lasting_places((8, "none", 1), numbers), [2, 3, 4, 5, 6, 7, 8, 9])
        self.assertEqual(lasting_places((8, "none", 1), [85] * 7 + [0]), [])


class SilenceTest(unittest.TestCase):
    def test_small_shapes(self):
        rng = random.Random(20)
        kinds = set()
        for shape in SMALL_SHAPES + [(3, "odd", 1), (4, "none", 1), (4, "even", 1)]:
            for numbers in subsets(shape, rng):
                expected = plain_greatest(shape, numbers)
                self.assertEqual(greatest_silence(shape, numbers), expected, (shape, numbers))
                kinds.add(expected)
                self.check_papers(shape, numbers, expected)
        # A number that passes once leads to a state from which it passes again and again.
        self.assertEqual(kinds, {None, 0})

    def test_some_numbers_of_all_shapes(self):
        rng = random.Random(21)
        for shape in ALL_SHAPES:
            every = range(2 ** shape[0])
            for many in (1, 2, 6, 20):
                numbers = rng.sample(every, min(many, len(every)))
                expected = plain_greatest(shape, numbers)
                self.assertEqual(greatest_silence(shape, numbers), expected)
                self.check_papers(shape, numbers, expected)

    def check_papers(self, shape, numbers, greatest):
        for many in (1, 2, 3, 24, 59, 60):
            paper = silence_paper(shape, numbers, many)
            if greatest is not None and many > greatest:
                self.assertIsNone(paper)
                continue
            place, ones, text = paper
            self.assertEqual([type(part) for part in (paper, *paper)], [tuple, int, int, list])
            self.assertIn((place, ones), plain_states(shape))
            self.assertEqual(len(text), many)
            self.assertTrue(all(number in numbers for number in text))
            self.assertTrue(passes(shape, (place, ones), text))
            self.assertIs(shows_silence(shape, numbers, many, paper), True)

    def test_each_text_from_each_state(self):
        for shape in SMALL_SHAPES:
            every = list(range(2 ** shape[0]))
            for many in (1, 2):
                for text in texts_of_length(every, many):
                    for place in range(-1, size_of(shape) + 2):
                        for ones in (-1, 0, 1, 2):
                            state = (place, ones)
                            expected = state in plain_states(shape) and passes(shape, state, text)
                            self.assertIs(shows_silence(shape, every, many, (place, ones, text)), expected)

    def test_the_longest_texts_number_by_number(self):
        for shape in [(1, "none", 1), (2, "none", 1), (2, "even", 1), (2, "odd", 2)]:
            for numbers in [[0], [1], [0, 1]]:
                greatest = greatest_silence(shape, numbers)
                for many in (1, 2, 3, 4):
                    shown = any(passes(shape, state, text) for state in plain_states(shape)
                                for text in texts_of_length(numbers, many))
                    self.assertIs(shown, greatest is None or many <= greatest)

    def test_what_is_no_paper(self):
        shape, numbers = (2, "even", 1), [3]
        self.assertTrue(shows_silence(shape, numbers, 2, (3, 0, [3, 3])))
        values = NO_TUPLES + [[3, 0, [3, 3]], (), (3,), (3, 0), (3, 0, [3, 3], 0), (3, 0, (3, 3)), (0, 0, [3, 3])]
        values += [(place, 0, [3, 3]) for place in NO_INTEGERS + [0, -1, 5, HUGE]]
        values += [(3, ones, [3, 3]) for ones in NO_INTEGERS + [-1, 2, HUGE]]
        values += [(3, 0, text) for text in NO_LISTS + [[], [3], [3, 3, 3]]]
        values += [(3, 0, [3, number]) for number in NO_INTEGERS + [-1, 0, 4, HUGE]]
        values += [(3, 0, [number, 3]) for number in NO_INTEGERS + [-1, 0, 4, HUGE]]
        for value in values:
            self.assertIs(shows_silence(shape, numbers, 2, value), False)
        # True is no number, although Python says that it is 1.
        self.assertFalse(shows_silence((1, "none", 1), [1], 1, (1, 0, [True])))

    def test_ones_of_states_without_parity_and_of_the_first_place(self):
        for numbers in ([0], [1], [2], [3]):
            self.assertFalse(shows_silence((2, "none", 1), numbers, 1, (2, 1, numbers)))
            self.assertFalse(shows_silence((2, "even", 1), numbers, 1, (1, 1, numbers)))

    def test_a_frame_with_a_wrong_parity_bit_in_its_stop_bits(self):
        # All data are seen already: only a stop look is left, and the ones tell that the reading is bad.
        for parity, right in (("even", 0), ("odd", 1)):
            shape = (2, parity, 2)
            for place in (4, 5):
                for number in range(4):
                    self.assertFalse(shows_silence(shape, [number], 1, (place, 1 - right, [number])))
                    expected = passes(shape, (place, right), [number])
                    self.assertIs(shows_silence(shape, [number], 1, (place, right, [number])), expected)


if __name__ == "__main__":
    unittest.main()
