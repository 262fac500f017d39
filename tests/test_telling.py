"""Points 37 and 38: at which lengths a signal can have been sent, and which numbers tell lengths apart."""

import functools
import itertools
import math
import random
import unittest

from startbits.shapes import size_of
from startbits.signals import moved, multiplied, sent, sent_text
from startbits.telling import lengths_of, likenesses, telling_numbers
from tests.reference import ALL_SHAPES, plain_frame, plain_level

SMALL_SHAPES = [shape for shape in ALL_SHAPES if shape[0] <= 3]


@functools.cache
def plain_frames(shape):
    return {tuple(plain_frame(shape, number)): number for number in range(2 ** shape[0])}


def plain_numbers(shape, length, signal):
    """The numbers of the sending with a length that has a signal, by looking at each level; None if there is none."""
    size = len(plain_frame(shape, 0))
    numbers, sending, behind = [], [], signal[0] if signal else 0
    for begin in signal[::2]:
        if begin < behind:
            continue
        levels = tuple(plain_level(signal, begin + length * place) for place in range(size))
        if levels not in plain_frames(shape):
            return None
        numbers.append(plain_frames(shape)[levels])
        sending += [begin + length * at for at in range(size) if levels[at] != ((1,) + levels)[at]]
        behind = begin + size * length
    return numbers if numbers and sending == signal else None


def plain_lengths(shape, signal):
    """All lengths at which a signal is that of a sending, length by length."""
    most = signal[-1] - signal[0] + 1 if signal else 0
    tried = [(length, plain_numbers(shape, length, signal)) for length in range(1, most + 1)]
    return [(length, numbers) for length, numbers in tried if numbers is not None]


def plain_likenesses(shape, number):
    """The likenesses of a number, by trying many lengths for many lengths."""
    found = {}
    for length in range(1, 13):
        signal = sent_text(shape, length, [number], 0)
        for other, numbers in plain_lengths(shape, signal):
            common = math.gcd(other, length)
            if other != length:
                found[other // common, length // common] = numbers
    quotients = sorted(found, key=lambda quotient: -quotient[0] / quotient[1])
    return [(top, bottom, found[top, bottom]) for top, bottom in quotients]


def signals_up_to(most):
    """All signals that begin at -3 and last at the most so many ticks."""
    for many in range(most + 1):
        for rest in itertools.combinations(range(1, most + 1), many):
            yield [-3] + [tick - 3 for tick in rest]


class ExampleTest(unittest.TestCase):
    def test_lengths_of(self):
        shape = (2, "none", 1)
        found = [lengths_of(shape, [0, 6]), lengths_of(shape, [0, 6, 8, 10]), lengths_of(shape, [0, 5, 8]),
                 lengths_of(shape, [])]
        self.assertEqual(found, [[(2, [0]), (3, [2]), (6, [3])], [(2, [0, 3])], [], []])

    def test_likenesses(self):
        shape = (2, "none", 1)
        self.assertEqual(likenesses(shape, 1), [(1, 2, [2, 2]), (1, 3, [0, 0])])
        self.assertEqual(likenesses(shape, 2), [(2, 1, [3]), (2, 3, [0])])
        self.assertEqual(likenesses((8, "none", 1), 85)[0], (1, 3, [28, 28, 252]))

    def test_telling_numbers(self):
        shape = (2, "none", 1)
        found = [telling_numbers(shape, [10, 20]), telling_numbers(shape, [10, 15]), telling_numbers(shape, [10, 13])]
        self.assertEqual(found, [[0], [1, 3], [0, 1, 2, 3]])


class LengthsOfTest(unittest.TestCase):
    def test_short_signals_length_by_length(self):
        several = 0
        for shape in [(1, "none", 1), (1, "even", 1), (1, "odd", 2), (2, "none", 1), (2, "odd", 1), (2, "none", 2),
                      (3, "even", 1)]:
            for signal in signals_up_to(10):
                expected = plain_lengths(shape, signal)
                self.assertEqual(lengths_of(shape, signal), expected, (shape, signal))
                several += len(expected) > 1
        self.assertGreater(several, 30)

    def test_divisors_of_long_runs(self):
        for shape in ALL_SHAPES:
            for ticks in (1, 2, 60, 360360, 27720 * 10 ** 25, 10 ** 30 - 1):
                lengths = []
                for many in range(1, size_of(shape) - shape[2] + 1):
                    # A frame that begins with so many levels at 0 has only levels at 1 behind them.
                    levels = [0] * many + [1] * (size_of(shape) - many)
                    is_frame = levels in [plain_frame(shape, number) for number in range(2 ** shape[0])]
                    if ticks % many == 0 and is_frame:
                        lengths = [ticks // many] + lengths
                self.assertEqual([length for length, _ in lengths_of(shape, [5, 5 + ticks])], lengths)

    def test_sendings_with_and_without_gaps(self):
        rng = random.Random(45)
        for shape in ALL_SHAPES:
            for length in (1, 7, 160, 10 ** 29 + 7):
                text = [rng.randrange(2 ** shape[0]) for _ in range(rng.randint(1, 20))]
                begin = rng.choice([0, -9, 10 ** 29])
                ticks, tick = [], begin
                for _ in text:
                    ticks.append(tick)
                    tick += size_of(shape) * length + rng.choice([0, 0, 1, length - 1, 5 * length + 3])
                for signal in (sent_text(shape, length, text, begin), sent(shape, length, list(zip(ticks, text)))):
                    self.assertIn((length, text), lengths_of(shape, signal))
                    self.check_changed_signals(rng, shape, signal)

    def check_changed_signals(self, rng, shape, signal):
        """One change moved, left out or put behind: what is found then is a sending, too."""
        at = rng.randrange(len(signal))
        changed = [signal[:at] + signal[at + 1:], signal + [signal[-1] + 1], signal + [signal[-1] + 5, signal[-1] + 9]]
        for by in (-1, 1):
            near = signal[:at] + [signal[at] + by] + signal[at + 1:]
            changed += [near] if near == sorted(set(near)) else []
        for other in changed:
            found = lengths_of(shape, other)
            if len(other) % 2 == 1:
                self.assertEqual(found, [])
            for length, numbers in found:
                self.assert_is_sending(shape, length, numbers, other)

    def assert_is_sending(self, shape, length, numbers, signal):
        """The signal is made of the frames of the numbers, each from its first change on."""
        rest = signal
        for number in numbers:
            frame = sent_text(shape, length, [number], rest[0])
            self.assertEqual(rest[:len(frame)], frame)
            behind = rest[len(frame):]
            self.assertTrue(behind == [] or behind[0] - rest[0] >= size_of(shape) * length)
            rest = behind
        self.assertEqual(rest, [])

    def test_changed_short_signals_length_by_length(self):
        rng = random.Random(46)
        for shape in [(2, "none", 1), (3, "even", 1), (4, "none", 2), (8, "none", 1)]:
            for _ in range(20):
                length = rng.randint(1, 6)
                signal = sent_text(shape, length, [rng.randrange(2 ** shape[0]) for _ in range(3)], 0)
                at = rng.randrange(len(signal))
                changed = [signal, signal[:at] + signal[at + 1:], signal + [signal[-1] + length]]
                changed += [signal[:at] + [signal[at] + 1] + signal[at + 1:]]
                for other in changed:
                    if other == sorted(set(other)):
                        self.assertEqual(lengths_of(shape, other), plain_lengths(shape, other))

    def test_quiet_signals_and_signals_that_end_at_the_level_0(self):
        for shape in ALL_SHAPES:
            for signal in ([], [0], [-7, 5, 9], list(range(0, 799 * 2, 2)), list(range(799))):
                self.assertEqual(lengths_of(shape, signal), [])

    def test_runs_with_very_many_levels(self):
        far = 10 ** 29
        for shape in [(1, "none", 1), (8, "none", 1)]:
            top = 2 ** shape[0] - 1
            for signal in ([0, 1, far, 2 * far], [0, 1, 40, 40 + far], [0, 1, far, far + 1, far + 2, 3 * far]):
                self.assertEqual(lengths_of(shape, signal), [])
            self.assertEqual(lengths_of(shape, [0, 1, far, far + 1]), [(1, [top, top])])

    def test_eight_hundred_changes(self):
        shape = (9, "none", 1)
        for by in (1, 10 ** 27):
            # The frame of 341 is 0, 1, 0, 1 and so on: ten changes for each number.
            signal = multiplied(sent_text(shape, 7, [341] * 60, 0), by)
            signal += [tick + 60 * 77 * by for tick in signal[:200]]
            self.assertEqual(len(signal), 800)
            self.assertEqual(lengths_of(shape, signal), plain_long(shape, 7 * by, signal))
            self.assertEqual(lengths_of(shape, signal)[-1], (7 * by, [341] * 80))
        single = []
        for at in range(400):
            single += [at * 110, at * 110 + 10]
        self.assertEqual(lengths_of(shape, single)[-1], (10, [511] * 400))

    def test_moved_and_multiplied_signals(self):
        rng = random.Random(47)
        for shape in SMALL_SHAPES:
            signal = sent_text(shape, 12, [rng.randrange(2 ** shape[0])], 0)
            found = lengths_of(shape, signal)
            self.assertEqual(lengths_of(shape, moved(signal, -10 ** 29)), found)
            wide = [(length * 10 ** 28, numbers) for length, numbers in found]
            wider = lengths_of(shape, multiplied(signal, 10 ** 28))
            self.assertTrue(all(row in wider for row in wide))


def plain_long(shape, most, signal):
    """All lengths of a signal with such a greatest one that divide it by a small number."""
    tried = [(most // by, plain_numbers(shape, most // by, signal)) for by in range(12, 0, -1) if most % by == 0]
    return [(length, numbers) for length, numbers in tried if numbers is not None]


class LikenessTest(unittest.TestCase):
    def test_all_numbers_of_small_shapes(self):
        for shape in SMALL_SHAPES:
            for number in range(2 ** shape[0]):
                self.assertEqual(likenesses(shape, number), plain_likenesses(shape, number), (shape, number))

    def test_numbers_of_nine_bits(self):
        found = 0
        for shape in [shape for shape in ALL_SHAPES if shape[0] in (8, 9)]:
            for number in (0, 2 ** shape[0] - 1, 85, 170, 341 % 2 ** shape[0], 1, 256 % 2 ** shape[0]):
                rows = likenesses(shape, number)
                found += len(rows)
                self.check_rows(shape, number, rows)
        self.assertGreater(found, 30)

    def check_rows(self, shape, number, rows):
        quotients = [(top, bottom) for top, bottom, _ in rows]
        for top, bottom, numbers in rows:
            self.assertEqual(math.gcd(top, bottom), 1)
            self.assertNotEqual(top, bottom)
            for by in (1, 3, 10 ** 20):
                signal = sent_text(shape, bottom * by, [number], -4)
                self.assertIn((top * by, numbers), lengths_of(shape, signal))
        for (top, bottom), (next_top, next_bottom) in zip(quotients, quotients[1:]):
            self.assertGreater(top * next_bottom, next_top * bottom)
        # Nothing else: each other quotient of small numbers is that of no sending.
        for top, bottom in itertools.product(range(1, 13), repeat=2):
            if math.gcd(top, bottom) == 1 and top != bottom and (top, bottom) not in quotients:
                self.assertIsNone(plain_numbers(shape, top, sent_text(shape, bottom, [number], 0)))

    def test_numbers_of_one_run_of_0(self):
        # The frame of 0 without parity is one run of 0: it is like each number that ends with ones.
        rows = likenesses((3, "none", 1), 0)
        self.assertEqual(rows, [(4, 1, [7]), (2, 1, [6]), (4, 3, [4])])


class TellingTest(unittest.TestCase):
    def plain_telling(self, shape, lengths):
        telling = []
        for number in range(2 ** shape[0]):
            signals = [sent_text(shape, length, [number], 0) for length in lengths]
            told = [plain_numbers(shape, other, signal) for signal, length in zip(signals, lengths)
                    for other in lengths if other != length]
            if all(numbers is None for numbers in told):
                telling.append(number)
        return telling

    def test_small_lengths(self):
        for shape in SMALL_SHAPES:
            for lengths in [[1, 2], [2, 3], [1, 3], [3, 4], [2, 4, 6], [1, 5], [5, 7], [1, 2, 3, 4, 5, 6, 7, 8],
                            [2, 4, 6, 8, 10, 12, 14, 16], [6, 9, 11], [1, 11]]:
                self.assertEqual(telling_numbers(shape, lengths), self.plain_telling(shape, lengths))

    def test_more_bits(self):
        for shape in [(5, "none", 1), (6, "even", 1)]:
            for lengths in [[2, 3], [1, 2, 4], [4, 5]]:
                self.assertEqual(telling_numbers(shape, lengths), self.plain_telling(shape, lengths))

    def test_long_lengths_with_the_same_quotients(self):
        for shape in [(2, "none", 1), (3, "odd", 2), (9, "none", 1)]:
            for lengths in [[2, 3], [2, 4, 6], [1, 2, 3, 4, 5, 6, 7, 8], [3, 4]]:
                expected = telling_numbers(shape, lengths)
                for by in (3, 10 ** 28, 10 ** 29 - 1):
                    self.assertEqual(telling_numbers(shape, [length * by for length in lengths]), expected)

    def test_long_lengths_without_a_small_quotient(self):
        for shape in [(2, "none", 1), (5, "even", 1)]:
            every = list(range(2 ** shape[0]))
            lengths = [10 ** 29 + by for by in range(8)]
            self.assertEqual(telling_numbers(shape, lengths), every)
            self.assertEqual(telling_numbers(shape, [1, 14]), every)

    def test_agrees_with_the_likenesses(self):
        for shape in ALL_SHAPES[:36]:
            for one, other in [(1, 2), (2, 3), (3, 5)]:
                telling = telling_numbers(shape, [one, other])
                for number in range(2 ** shape[0]):
                    like = [(top, bottom) for top, bottom, _ in likenesses(shape, number)]
                    self.assertIs(number in telling, (one, other) not in like and (other, one) not in like)


if __name__ == "__main__":
    unittest.main()
