"""Points 9, 19, 20, 21 and 22: safe lengths, and the grains, waits and steps for which a length is safe."""

import itertools
import random
import unittest

from startbits.errors import InvalidLength
from startbits.readings import is_read_right
from startbits.signals import sent, sent_text, sent_unevenly
from startbits.shapes import size_of
from startbits.speeds import best_wait, is_safe, is_safe_span, margin, misread_paper
from startbits.speeds import safe_grains, safe_lengths, safe_steps, safe_waits, shows_misread
from tests.reference import ALL_SHAPES, plain_is_right, plain_offset_is_good, stretches_in
from tests.values import HUGE, NO_INTEGERS, NO_LISTS, NO_TUPLES

BIG = 10 ** 26
UART, SIXTEEN = (8, "none", 1), (10, 8, 16)
SMALL_SHAPES = [(1, "none", 1), (1, "even", 1), (1, "odd", 2), (2, "none", 2), (2, "even", 1)]
RECEIVERS = [(1, 0, 1), (1, 1, 1), (1, 3, 6), (2, 0, 1), (2, 1, 3), (3, 0, 2), (3, 2, 5), (4, 4, 2), (5, 1, 4)]


def plain_is_safe(shape, receiver, length):
    """Whether each offset is good, one by one."""
    return all(plain_offset_is_good(shape, receiver, length, offset) for offset in range(receiver[0]))


def most_length(shape, receiver):
    """A length above which no text is read right."""
    grain, wait, step = receiver
    return grain * (wait + step * size_of(shape) + 2)


def plain_safe_lengths(shape, receiver):
    """The stretches of safe lengths, length by length."""
    lengths = range(1, most_length(shape, receiver) + 1)
    return stretches_in([length for length in lengths if plain_is_safe(shape, receiver, length)])


def as_stretches(answer):
    return [] if answer is None else [answer]


class ExampleTest(unittest.TestCase):
    def test_safe_lengths(self):
        found = [safe_lengths(UART, SIXTEEN), is_safe(UART, SIXTEEN, 152), margin(UART, SIXTEEN, 160),
                 margin(UART, SIXTEEN, 152)]
        self.assertEqual(found, [(153, 168), False, 7, None])
        found = [safe_lengths((8, "even", 1), SIXTEEN), safe_lengths((8, "none", 2), (10, 9, 16)),
                 safe_lengths(UART, (10, 100, 1))]
        self.assertEqual(found, [(154, 168), (155, 170), None])

    def test_grains_waits_and_steps(self):
        found = [safe_grains(UART, 8, 16, 160), safe_waits(UART, 10, 16, 160), safe_steps(UART, 10, 8, 160),
                 best_wait(UART, 10, 16, 160)]
        self.assertEqual(found, [(10, 10), (0, 15), (16, 16), 7])
        self.assertEqual([margin(UART, (10, wait, 16), 160) for wait in (7, 8)], [7, 7])
        self.assertEqual([safe_lengths(UART, (10, wait, 16)) for wait in (7, 8)], [(152, 167), (153, 168)])

    def test_spans(self):
        found = [is_safe_span(UART, SIXTEEN, low, high) for low, high in [(153, 168), (152, 160), (160, 169)]]
        self.assertEqual(found, [True, False, False])

    def test_papers(self):
        papers = [(169, (0, [0])), (169, (0, [128])), (152, (9, [7, 255])), (160, (0, [0])), (169, (10, [0]))]
        self.assertIsNone(misread_paper(UART, SIXTEEN, 160))
        found = [shows_misread(UART, SIXTEEN, length, paper) for length, paper in papers]
        self.assertEqual(found, [True, False, True, False, False])


class SafeLengthTest(unittest.TestCase):
    def test_length_by_length(self):
        for shape in ALL_SHAPES:
            for receiver in RECEIVERS:
                expected = plain_safe_lengths(shape, receiver)
                self.assertEqual(as_stretches(safe_lengths(shape, receiver)), expected)

    def test_judgments_and_margins(self):
        for shape in [(1, "none", 1), (3, "odd", 2), (8, "none", 1)]:
            for receiver in [(1, 3, 6), (3, 2, 5), (3, 5, 9), (5, 1, 4)]:
                safe = [length for length in range(1, most_length(shape, receiver))
                        if plain_is_safe(shape, receiver, length)]
                for length in range(1, most_length(shape, receiver)):
                    self.assertIs(is_safe(shape, receiver, length), length in safe)
                    by = 0
                    while length - by in safe and length + by in safe:
                        by += 1
                    self.assertEqual(margin(shape, receiver, length), by - 1 if by > 0 else None)

    def test_safe_is_what_every_text_of_two_numbers_shows(self):
        for shape in SMALL_SHAPES:
            every = range(2 ** shape[0])
            texts = [[one] for one in every] + [[one, other] for one in every for other in every]
            for receiver in [(1, 1, 3), (2, 0, 1), (2, 1, 3), (3, 2, 5), (3, 0, 1)]:
                for length in range(1, most_length(shape, receiver) + 1):
                    shown = all(is_read_right(shape, receiver, phase, sent_text(shape, length, text, 0), text)
                                for text in texts for phase in range(receiver[0]))
                    self.assertEqual(is_safe(shape, receiver, length), shown, (shape, receiver, length))

    def test_safe_sendings_with_gaps_are_read_right(self):
        rng = random.Random(1)
        for shape in ALL_SHAPES:
            least, greatest = safe_lengths(shape, (7, 8, 16))
            for length in (least, greatest):
                frame_ticks = size_of(shape) * length
                tick, sending = rng.randint(-50, 50), []
                for _ in range(rng.randint(1, 9)):
                    sending.append((tick, rng.randrange(2 ** shape[0])))
                    tick += frame_ticks + rng.choice([0, 0, 1, rng.randint(0, 3000)])
                phase = sending[0][0] - rng.choice([0, 1, 6, 7, rng.randint(0, 10 ** 20)])
                numbers = [number for _, number in sending]
                signal = sent(shape, length, sending)
                self.assertTrue(is_read_right(shape, (7, 8, 16), phase, signal, numbers))

    def test_the_lengths_beside_the_ends(self):
        for shape in ALL_SHAPES:
            for receiver in [SIXTEEN, (BIG, 8, 16), (BIG + 7, 100, 201), (3, BIG, 2 * BIG), (10, 9, 16)]:
                least, greatest = safe_lengths(shape, receiver)
                found = [is_safe(shape, receiver, length) for length in (least - 1, least, greatest, greatest + 1)]
                self.assertEqual(found, [False, True, True, False])
                for length in (least - 1, greatest + 1):
                    self.assertIsNotNone(misread_paper(shape, receiver, length))
                for length in (least, greatest, (least + greatest) // 2):
                    top = 2 ** shape[0] - 1
                    for phase in (0, receiver[0] - 1):
                        for text in ([0, top, 0], [top, 0, 1], [top // 3, top - top // 3, top]):
                            signal = sent_text(shape, length, text, 0)
                            self.assertTrue(is_read_right(shape, receiver, phase, signal, text))

    def test_margins_of_the_ends(self):
        self.assertEqual([margin(UART, SIXTEEN, length) for length in (153, 154, 160, 161, 167, 168, 169)],
                         [0, 1, 7, 7, 1, 0, None])
        self.assertEqual(margin(UART, (BIG, 8, 16), 16 * BIG), 7 * BIG // 10)

    def test_two_stops_need_no_second_look_in_the_second_stop_bit(self):
        self.assertTrue(is_safe((8, "none", 2), (10, 9, 16), 170))
        self.assertFalse(is_safe((8, "none", 2), (10, 9, 16), 171))

    def test_receivers_for_which_nothing_is_safe(self):
        for receiver in [(10, 100, 1), (10, 1, 1), (1, 5, 1), (BIG, BIG, 1)]:
            self.assertIsNone(safe_lengths(UART, receiver))
            for length in (1, 10, 160, BIG * BIG):
                self.assertIs(is_safe(UART, receiver, length), False)
                self.assertIsNone(margin(UART, receiver, length))

    def test_the_least_receiver(self):
        self.assertEqual([safe_lengths(UART, (1, 0, 1)), is_safe(UART, (1, 0, 1), 1)], [(1, 1), True])
        self.assertEqual(margin(UART, (1, 0, 1), 1), 0)


class ReceiverNumberTest(unittest.TestCase):
    def test_number_by_number(self):
        for shape in [(1, "none", 1), (1, "even", 2), (3, "none", 2), (4, "odd", 1), (8, "none", 1)]:
            for length in (1, 2, 5, 12, 31, 40):
                for one, other in itertools.product((0, 1, 2, 5, 9), (1, 2, 3, 7)):
                    self.check_numbers(shape, length, one, other)

    def check_numbers(self, shape, length, one, other):
        numbers = range(0, 2 * length + 2)
        grains = [grain for grain in numbers[1:] if plain_is_safe(shape, (grain, one, other), length)]
        self.assertEqual(as_stretches(safe_grains(shape, one, other, length)), stretches_in(grains))
        steps = [step for step in numbers[1:] if plain_is_safe(shape, (other, one, step), length)]
        self.assertEqual(as_stretches(safe_steps(shape, other, one, length)), stretches_in(steps))
        if one > 0:
            waits = [wait for wait in numbers if plain_is_safe(shape, (one, wait, other), length)]
            self.assertEqual(as_stretches(safe_waits(shape, one, other, length)), stretches_in(waits))

    def test_the_best_wait(self):
        for shape in [(1, "none", 1), (3, "none", 2), (4, "odd", 1), (8, "none", 1)]:
            for grain, step in [(1, 4), (1, 5), (1, 16), (2, 5), (3, 7), (10, 16)]:
                for length in range(grain * step - 6, grain * step + 7):
                    if length < 1:
                        continue
                    margins = {wait: margin(shape, (grain, wait, step), length) for wait in range(2 * step)}
                    safe = [by for by in margins.values() if by is not None]
                    best = [wait for wait, by in margins.items() if safe and by == max(safe)]
                    self.assertEqual(best_wait(shape, grain, step, length), best[0] if best else None)

    def test_no_such_number(self):
        self.assertIsNone(safe_grains(UART, 8, 14, 40))
        self.assertIsNone(safe_grains(UART, 8, 16, 8))
        self.assertIsNone(safe_waits(UART, 10, 14, 160))
        self.assertIsNone(safe_waits(UART, 200, 16, 160))
        self.assertIsNone(safe_steps(UART, 10, 16, 160))
        self.assertIsNone(safe_steps(UART, 100, 0, 160))
        self.assertIsNone(best_wait(UART, 10, 14, 160))
        self.assertIsNone(best_wait(UART, 200, 16, 1))

    def test_large_grains(self):
        for shape in [(1, "none", 1), (8, "none", 1), (9, "even", 2)]:
            for wait, step in [(8, 16), (0, 10 ** 12), (10 ** 12, 2 * 10 ** 12 + 1)]:
                length = step * BIG + 12345
                least, greatest = safe_grains(shape, wait, step, length)
                ends = (least - 1, least, greatest, greatest + 1)
                found = [is_safe(shape, (grain, wait, step), length) for grain in ends]
                self.assertEqual(found, [False, True, True, False])

    def test_large_waits_and_steps(self):
        for shape in [(1, "none", 1), (8, "none", 1), (9, "even", 2)]:
            grain, length = 10 ** 14 + 3, 10 ** 29 + 7
            step = length // grain
            least, greatest = safe_waits(shape, grain, step, length)
            found = [is_safe(shape, (grain, wait, step), length) for wait in (least, greatest, greatest + 1)]
            self.assertEqual(found, [True, True, False])
            self.assertTrue(least == 0 or not is_safe(shape, (grain, least - 1, step), length))
            wait = best_wait(shape, grain, step, length)
            by = margin(shape, (grain, wait, step), length)
            self.assertGreater(by, margin(shape, (grain, wait - 1, step), length))
            self.assertGreaterEqual(by, margin(shape, (grain, wait + 1, step), length))
            least, greatest = safe_steps(shape, grain, wait, length)
            ends = (least - 1, least, greatest, greatest + 1)
            found = [is_safe(shape, (grain, wait, step), length) for step in ends]
            self.assertEqual(found, [False, True, True, False])


class SpanTest(unittest.TestCase):
    def test_spans_of_one_length(self):
        for receiver in RECEIVERS + [SIXTEEN]:
            for length in range(1, 180):
                self.assertIs(is_safe_span(UART, receiver, length, length), is_safe(UART, receiver, length))

    def test_all_lasts_of_a_small_shape(self):
        shape, every = (1, "none", 1), [[0], [1], [0, 0], [0, 1], [1, 0], [1, 1]]
        for receiver in [(1, 1, 3), (1, 0, 2), (2, 1, 3), (2, 0, 2)]:
            for low in range(1, 9):
                for high in range(low, min(low + 3, 9)):
                    shown = all(self.is_right_for_all_lasts(shape, receiver, low, high, text) for text in every)
                    self.assertIs(is_safe_span(shape, receiver, low, high), shown)

    def is_right_for_all_lasts(self, shape, receiver, low, high, text):
        many = 3 * len(text)
        choices = itertools.product({low, high}, repeat=many)
        return all(plain_is_right(shape, receiver, phase, sent_unevenly(shape, text, 0, list(lasts)), text)
                   for lasts in choices for phase in range(receiver[0]))

    def test_uneven_texts_of_a_safe_span_are_read_right(self):
        rng = random.Random(2)
        for shape in ALL_SHAPES:
            for receiver in [(10, 8, 16), (BIG, 8, 16)]:
                low, high = safe_lengths(shape, receiver)
                for _ in range(4):
                    text = [rng.randrange(2 ** shape[0]) for _ in range(5)]
                    lasts = [rng.choice([low, high, rng.randint(low, high)]) for _ in range(5 * size_of(shape))]
                    signal = sent_unevenly(shape, text, 0, lasts)
                    phase = rng.choice([0, receiver[0] - 1, -rng.randrange(BIG)])
                    self.assertTrue(is_read_right(shape, receiver, phase, signal, text))
                self.assertTrue(is_safe_span(shape, receiver, low, high))
                self.assertFalse(is_safe_span(shape, receiver, low - 1, high))
                self.assertFalse(is_safe_span(shape, receiver, low, high + 1))

    def test_no_span_where_nothing_is_safe(self):
        for low, high in [(1, 1), (1, BIG), (160, 160), (BIG, BIG)]:
            self.assertIs(is_safe_span(UART, (10, 100, 1), low, high), False)

    def test_the_high_end_is_not_below_the_low_one(self):
        self.assertTrue(is_safe_span(UART, SIXTEEN, 160, 160))
        for high in (159, 1, 0, -1):
            with self.assertRaises(InvalidLength):
                is_safe_span(UART, SIXTEEN, 160, high)


class PaperTest(unittest.TestCase):
    def check_paper(self, shape, receiver, length):
        paper = misread_paper(shape, receiver, length)
        if is_safe(shape, receiver, length):
            self.assertIsNone(paper)
            return
        phase, numbers = paper
        self.assertEqual((type(paper), type(numbers)), (tuple, list))
        self.assertIn(len(numbers), (1, 2))
        self.assertTrue(0 <= phase < receiver[0])
        self.assertFalse(is_read_right(shape, receiver, phase, sent_text(shape, length, numbers, 0), numbers))
        self.assertIs(shows_misread(shape, receiver, length, paper), True)

    def test_each_length_that_is_not_safe_has_a_paper(self):
        for shape in ALL_SHAPES:
            for receiver in RECEIVERS:
                for length in range(1, most_length(shape, receiver) + 1):
                    self.check_paper(shape, receiver, length)

    def test_papers_of_large_lengths(self):
        rng = random.Random(3)
        for shape in ALL_SHAPES:
            for _ in range(12):
                receiver = (rng.randint(1, BIG), rng.choice([0, 8, 100, BIG]), rng.choice([1, 16, 99, BIG]))
                scale = receiver[0] * (receiver[1] + receiver[2])
                for length in (1, receiver[0], scale, rng.randint(1, 2 * scale), 10 ** 29, 10 ** 58):
                    self.check_paper(shape, receiver, length)

    def test_shows_misread_is_what_looking_shows(self):
        shape, receiver = (2, "even", 1), (3, 1, 3)
        for length in range(1, 40):
            for text in [[0], [3], [1, 2], [3, 0]]:
                for phase in range(3):
                    expected = not plain_is_right(shape, receiver, phase, sent_text(shape, length, text, 0), text)
                    self.assertIs(shows_misread(shape, receiver, length, (phase, text)), expected)

    def test_what_is_no_paper(self):
        self.assertTrue(shows_misread(UART, SIXTEEN, 169, (0, [0])))
        values = NO_TUPLES + [[0, [0]], (), (0,), (0, [0], 0), (0, (0,)), (0, []), (0, [0, 0, 0]), ([0], 0)]
        values += [(phase, [0]) for phase in NO_INTEGERS + [-1, -10, -1690, 10, 170, 1690, HUGE, -HUGE]]
        values += [(0, numbers) for numbers in NO_LISTS]
        values += [(0, [number]) for number in NO_INTEGERS + [-1, 256, HUGE]]
        values += [(0, [0, number]) for number in NO_INTEGERS + [-1, 256, HUGE]]
        for value in values:
            self.assertIs(shows_misread(UART, SIXTEEN, 169, value), False)


if __name__ == "__main__":
    unittest.main()
