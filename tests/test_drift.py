"""Points 9, 23, 24, 25 and 26: offsets, the numbers at risk, and the phases that last."""

import random
import unittest
from math import gcd

from startbits.drift import count_risks, first_risk, good_offsets, lasting_phases, offset_of, risk_numbers
from startbits.readings import is_read_right, readings
from startbits.shapes import size_of
from startbits.signals import sent_text
from startbits.speeds import is_safe
from tests.reference import ALL_SHAPES, plain_is_right, plain_offset_is_good, stretches_in

BIG = 10 ** 28
UART, SEVEN = (8, "none", 1), (7, 8, 16)
SHAPES = [(1, "none", 1), (1, "even", 1), (2, "odd", 2), (3, "none", 2), (8, "none", 1)]
RECEIVERS = [(1, 0, 1), (2, 1, 3), (3, 0, 2), (4, 3, 5), (6, 8, 16), (7, 8, 16), (10, 2, 4), (12, 0, 1)]


def near_lengths(shape, receiver):
    """Lengths at which something happens: around those at which a frame is read right, and some others."""
    grain, wait, step = receiver
    middle = grain * step
    return [length for length in range(middle - grain, middle + grain + 3) if length > 0] + [1, 2, 3 * middle]


def plain_risks(shape, receiver, length, phase, many):
    """Whether each of the first numbers is at risk, one by one, by the words of point 9."""
    grain = receiver[0]
    offsets = [(phase - index * size_of(shape) * length) % grain for index in range(many)]
    good = [plain_offset_is_good(shape, receiver, length, offset) for offset in range(grain)]
    return [not good[offset] for offset in offsets]


class ExampleTest(unittest.TestCase):
    def test_offsets(self):
        self.assertEqual(good_offsets(UART, SEVEN, 107), (0, 5))
        found = [offset_of(UART, SEVEN, 107, 0, index) for index in range(8)]
        self.assertEqual(found, [0, 1, 2, 3, 4, 5, 6, 0])

    def test_risks(self):
        self.assertEqual([first_risk(UART, SEVEN, 107, 0), first_risk(UART, SEVEN, 107, 3)], [6, 3])
        found = [count_risks(UART, SEVEN, 107, 0, 20), count_risks(UART, SEVEN, 107, 0, 10 ** 20)]
        self.assertEqual(found, [2, 14285714285714285714])
        length = (152 * 10 ** 28 + 1) // 9
        found = [first_risk(UART, (10 ** 28, 8, 16), length, phase) for phase in (0, 5 * 10 ** 27, 5 * 10 ** 27 + 1)]
        self.assertEqual(found, [0, 500000000000000000000000000, None])

    def test_lasting_phases(self):
        found = [lasting_phases(UART, (10, 8, 16), 169), lasting_phases(UART, (10, 8, 16), 160)]
        self.assertEqual(found, [(10, 1, 9), (10, 0, 9)])
        found = [lasting_phases(UART, (1000, 8, 16), 16889), lasting_phases(UART, (7, 8, 16), 107)]
        self.assertEqual(found, [(10, 1, 9), None])

    def test_risk_numbers(self):
        numbers = [1, 2, 3, 4, 5, 6]
        longer = numbers + list(risk_numbers(UART, SEVEN, 107, 0))
        found = [is_read_right(UART, SEVEN, 0, sent_text(UART, 107, some, 0), some) for some in (numbers, longer)]
        self.assertEqual(found, [True, False])
        self.assertIsNone(risk_numbers(UART, (10, 8, 16), 169, 3))


class OffsetTest(unittest.TestCase):
    def test_offsets_are_where_start_looks_lie(self):
        for phase in range(7):
            found = readings(UART, SEVEN, phase, sent_text(UART, 112, [85] * 60, 0))
            offsets = [tick - 1120 * index for index, (tick, _, _) in enumerate(found)]
            self.assertEqual(offsets, [offset_of(UART, SEVEN, 112, phase, index) for index in range(60)])

    def test_large_indexes(self):
        index = 10 ** 60 + 7
        self.assertEqual(offset_of(UART, (BIG, 8, 16), 3, 5, index), (5 - 30 * index) % BIG)
        self.assertEqual(offset_of(UART, (1, 8, 16), 3, 0, index), 0)
        self.assertEqual(offset_of(UART, SEVEN, 107, 0, 7 * 10 ** 60 + 3), 3)

    def test_good_offsets_one_by_one(self):
        for shape in ALL_SHAPES:
            for receiver in RECEIVERS:
                for length in near_lengths(shape, receiver):
                    good = [offset for offset in range(receiver[0])
                            if plain_offset_is_good(shape, receiver, length, offset)]
                    found = good_offsets(shape, receiver, length)
                    self.assertEqual([] if found is None else [found], stretches_in(good))

    def test_good_offsets_of_large_grains(self):
        for length in ((152 * BIG + 1) // 9, 16 * BIG, 17 * BIG, 152 * BIG // 10, 153 * BIG // 10):
            receiver = (BIG, 8, 16)
            found = good_offsets(UART, receiver, length)
            if found is None:
                self.assertFalse(plain_offset_is_good(UART, receiver, length, 0))
                continue
            for offset in (found[0] - 1, found[0], found[1], found[1] + 1):
                expected = found[0] <= offset <= found[1]
                if 0 <= offset < BIG:
                    self.assertIs(plain_offset_is_good(UART, receiver, length, offset), expected)

    def test_all_offsets_are_good_at_safe_lengths_alone(self):
        for shape in ALL_SHAPES:
            for receiver in RECEIVERS:
                for length in near_lengths(shape, receiver):
                    all_good = good_offsets(shape, receiver, length) == (0, receiver[0] - 1)
                    self.assertIs(all_good, is_safe(shape, receiver, length))


class RiskTest(unittest.TestCase):
    def test_number_by_number(self):
        for shape in SHAPES:
            for receiver in RECEIVERS:
                for length in near_lengths(shape, receiver):
                    for phase in range(receiver[0]):
                        self.check_risks(shape, receiver, length, phase)

    def check_risks(self, shape, receiver, length, phase):
        # Behind as many numbers as the grain tells the offsets come again.
        risks = plain_risks(shape, receiver, length, phase, 2 * receiver[0] + 1)
        first = risks.index(True) if True in risks else None
        self.assertEqual(first_risk(shape, receiver, length, phase), first)
        for many in (0, 1, receiver[0], len(risks) - 1, len(risks)):
            self.assertEqual(count_risks(shape, receiver, length, phase, many), sum(risks[:many]))

    def test_numbers_ahead_of_the_first_risk_are_read_right(self):
        rng = random.Random(4)
        for shape in SHAPES:
            for receiver in RECEIVERS:
                for length in near_lengths(shape, receiver):
                    phase = rng.randrange(receiver[0])
                    first = first_risk(shape, receiver, length, phase)
                    many = 60 if first is None else min(first, 60)
                    numbers = [rng.randrange(2 ** shape[0]) for _ in range(many)]
                    signal = sent_text(shape, length, numbers, 0)
                    self.assertTrue(is_read_right(shape, receiver, phase, signal, numbers))

    def test_large_grains(self):
        rng = random.Random(5)
        for shape in [(1, "none", 1), (8, "none", 1), (9, "even", 2)]:
            for _ in range(40):
                grain = rng.choice([BIG, BIG + 1, 3 ** 50, 2 ** 90, rng.randint(1, BIG)])
                receiver = (grain, rng.choice([8, 7, 50]), rng.choice([16, 100]))
                middle = grain * receiver[2]
                length = middle + rng.randint(-middle // 15, middle // 15)
                self.check_large(shape, receiver, length, rng.randrange(grain))

    def check_large(self, shape, receiver, length, phase):
        grain = receiver[0]
        first = first_risk(shape, receiver, length, phase)
        period = grain // gcd(grain, size_of(shape) * length)
        if first is None:
            self.assertEqual(count_risks(shape, receiver, length, phase, 10 ** 60), 0)
            return
        self.assertLess(first, period)
        offset = offset_of(shape, receiver, length, phase, first)
        self.assertFalse(plain_offset_is_good(shape, receiver, length, offset))
        self.assertEqual(count_risks(shape, receiver, length, phase, first), 0)
        self.assertEqual(count_risks(shape, receiver, length, phase, first + 1), 1)
        # The counts of stretches behind each other add up.
        many = 10 ** 30 + 123
        later = offset_of(shape, receiver, length, phase, first + 1)
        total = count_risks(shape, receiver, length, phase, first + 1 + many)
        self.assertEqual(total, 1 + count_risks(shape, receiver, length, later, many))
        whole = count_risks(shape, receiver, length, phase, period)
        self.assertEqual(count_risks(shape, receiver, length, phase, 10 ** 30 * period), 10 ** 30 * whole)

    def test_counts_in_a_whole_period(self):
        # Each offset that is equal to the phase by the greatest common divisor comes once.
        for grain, length in [(10 ** 20, 15 * 10 ** 20 + 7), (10 ** 20, 169 * 10 ** 19), (3 ** 40, 16 * 3 ** 40 + 9)]:
            receiver = (grain, 8, 16)
            good = good_offsets(UART, receiver, length)
            modulus = gcd(grain, 10 * length)
            for phase in (0, 1, grain // 3, grain - 1):
                many = 0
                if good is not None:
                    below = [(end - phase % modulus) // modulus for end in (good[0] - 1, good[1])]
                    many = below[1] - below[0]
                period = grain // modulus
                self.assertEqual(count_risks(UART, receiver, length, phase, period), period - many)

    def test_no_good_offset_and_no_bad_one(self):
        self.assertIsNone(good_offsets(UART, SEVEN, 10 ** 20))
        self.assertEqual(first_risk(UART, SEVEN, 10 ** 20, 3), 0)
        self.assertEqual(count_risks(UART, SEVEN, 10 ** 20, 3, 10 ** 60), 10 ** 60)
        self.assertEqual(count_risks(UART, SEVEN, 10 ** 20, 3, 0), 0)
        self.assertIsNone(first_risk(UART, SEVEN, 112, 3))
        self.assertEqual(count_risks(UART, SEVEN, 112, 3, 10 ** 60), 0)


class LastingTest(unittest.TestCase):
    def test_phase_by_phase(self):
        for shape in SHAPES:
            for receiver in RECEIVERS:
                for length in near_lengths(shape, receiver):
                    self.check_phases(shape, receiver, length)

    def check_phases(self, shape, receiver, length):
        grain = receiver[0]
        lasting = [phase for phase in range(grain)
                   if not any(plain_risks(shape, receiver, length, phase, grain))]
        found = lasting_phases(shape, receiver, length)
        if not lasting:
            self.assertIsNone(found)
            return
        modulus, least, greatest = found
        self.assertEqual(modulus, gcd(grain, size_of(shape) * length))
        self.assertTrue(0 <= least <= greatest < modulus)
        self.assertEqual(lasting, [phase for phase in range(grain) if least <= phase % modulus <= greatest])

    def test_large_grains(self):
        for grain, length in [(BIG, 169 * BIG // 10), (BIG, 16 * BIG), (BIG, 16 * BIG + BIG // 2), (10, 169),
                              (BIG, 15 * BIG + 1), (6 * 10 ** 20, 101 * 10 ** 20)]:
            found = lasting_phases(UART, (grain, 8, 16), length)
            modulus = gcd(grain, 10 * length)
            if found is None:
                for phase in (0, 1, grain // 2, grain - 1):
                    self.assertIsNotNone(first_risk(UART, (grain, 8, 16), length, phase))
                continue
            self.assertEqual(found[0], modulus)
            for phase in (found[1] - 1, found[1], found[2], found[2] + 1):
                if 0 <= phase < modulus:
                    for moved in (phase, grain - modulus + phase):
                        is_lasting = first_risk(UART, (grain, 8, 16), length, moved) is None
                        self.assertIs(is_lasting, found[1] <= phase <= found[2])


class RiskNumberTest(unittest.TestCase):
    def test_texts_that_end_with_them_are_not_read_right(self):
        rng = random.Random(6)
        for shape in SHAPES + [(9, "even", 2), (4, "odd", 1)]:
            for receiver in RECEIVERS:
                for length in near_lengths(shape, receiver):
                    for phase in {0, receiver[0] - 1, rng.randrange(receiver[0])}:
                        self.check_numbers(rng, shape, receiver, length, phase)

    def check_numbers(self, rng, shape, receiver, length, phase):
        first = first_risk(shape, receiver, length, phase)
        found = risk_numbers(shape, receiver, length, phase)
        if first is None:
            self.assertIsNone(found)
            return
        self.assertEqual([type(found), *map(type, found)], [tuple, int, int])
        self.assertTrue(all(0 <= number < 2 ** shape[0] for number in found))
        for _ in range(2):
            numbers = [rng.randrange(2 ** shape[0]) for _ in range(first)] + list(found)
            signal = sent_text(shape, length, numbers, 0)
            self.assertFalse(is_read_right(shape, receiver, phase, signal, numbers))

    def test_small_ones_look_by_look(self):
        shape = (2, "none", 1)
        for receiver in [(3, 1, 3), (5, 0, 2), (4, 2, 4)]:
            for length in range(1, 25):
                for phase in range(receiver[0]):
                    first = first_risk(shape, receiver, length, phase)
                    if first is not None:
                        numbers = [2, 1, 3, 0, 1][:first] + list(risk_numbers(shape, receiver, length, phase))
                        signal = sent_text(shape, length, numbers, 0)
                        self.assertFalse(plain_is_right(shape, receiver, phase, signal, numbers))

    def test_large_grains(self):
        length = (152 * BIG + 1) // 9
        receiver = (BIG, 8, 16)
        for phase in (0, 5 * 10 ** 27, 10 ** 27):
            pair = list(risk_numbers(UART, receiver, length, phase))
            offset = offset_of(UART, receiver, length, phase, first_risk(UART, receiver, length, phase))
            # The text of the two alone is not read right at the offset that the first risk has.
            self.assertFalse(is_read_right(UART, receiver, offset, sent_text(UART, length, pair, 0), pair))
        self.assertIsNone(risk_numbers(UART, receiver, length, 5 * 10 ** 27 + 1))


if __name__ == "__main__":
    unittest.main()
