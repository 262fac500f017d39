"""Points 34, 35 and 36: the texts that a recorded line can have been."""

import functools
import itertools
import random
import unittest

from startbits import records
from startbits.errors import Impossible, InvalidLength, InvalidNumber, InvalidShape, InvalidSignal, InvalidText
from startbits.records import count_texts, fewest_numbers, is_possible, least_high, most_numbers, nth_text
from startbits.records import sure_numbers, text_index
from startbits.shapes import levels_of
from startbits.signals import moved, multiplied, sent, sent_unevenly
from tests.reference import ALL_SHAPES, changes_in, plain_frame
from tests.values import HUGE, NO_INTEGERS

PARTS = [nth_text, text_index, fewest_numbers, most_numbers, sure_numbers]


def sendings_up_to(shape, low, high, most):
    """For each signal that begins at 0 and whose last change is not behind a tick, all texts that it can be.

    It goes through all texts, all ways in which their levels can last, and all gaps.
    """
    found = {(): {()}}
    rows = {((), 0, ())}
    while rows:
        longer = set()
        for changes, behind, text in rows:
            for begin in range(behind, most if text else 1):
                for number in range(2 ** shape[0]):
                    for frame, end in frames_sent(shape, low, high, number, begin):
                        if frame[-1] <= most:
                            longer.add((changes + frame, end, text + (number,)))
        rows = longer
        for changes, _, text in rows:
            found.setdefault(changes, set()).add(text)
    return found


@functools.cache
def frames_sent(shape, low, high, number, begin):
    """The changes of a frame, and the tick behind it, for all ways in which its levels can last."""
    levels = plain_frame(shape, number)
    found = set()
    for lasts in itertools.product(range(low, high + 1), repeat=len(levels)):
        ticks = [begin + sum(lasts[:at]) for at in range(len(levels))]
        changes = tuple(tick for at, tick in enumerate(ticks) if levels[at] != ([1] + levels)[at])
        found.add((changes, begin + sum(lasts)))
    return found


def signals_up_to(most):
    """All signals that begin at 0 and whose last change is not behind a tick, and the quiet one."""
    rest = [list(ticks) for many in range(most + 1) for ticks in itertools.combinations(range(1, most + 1), many)]
    return [[]] + [[0] + ticks for ticks in rest]


def plain_count(shape, low, high, signal):
    """How many texts a signal can be, counted level by level instead of number by number."""
    bits, parity, stops = shape
    size = len(plain_frame(shape, 0))
    lasts = [behind - ahead for ahead, behind in zip(signal, signal[1:])]
    right = {"none": None, "even": 0, "odd": 1}[parity]

    @functools.cache
    def from_run(run, place, ones):
        """The ways to go on from the begin of a run with so many levels of the frame ahead of it."""
        level = run % 2
        if run == len(lasts):
            return int(place < size and ends_with(place, size - place, ones))
        total = 0
        for many in range(1, size - place + 1):
            if many * low > lasts[run]:
                break
            behind = place + many
            if level == 0:
                if behind <= size - stops and many * high >= lasts[run]:
                    total += from_run(run + 1, behind, ones)
            elif behind == size:
                if ends_with(place, many, ones):
                    total += from_run(run + 1, 0, 0)
            elif behind <= size - stops and many * high >= lasts[run]:
                total += from_run(run + 1, behind, (ones + many) % 2)
        return total

    def ends_with(place, many, ones):
        data = max(0, min(place + many, size - stops) - place)
        return many >= stops and (right is None or (ones + data) % 2 == right)

    if len(signal) % 2 == 1:
        return 0
    return from_run(0, 0, 0) if signal else 1


def wandering(rng, shape, low, high, many, begin):
    """A text, and a signal that it can be with gaps between the frames."""
    text = [rng.randrange(2 ** shape[0]) for _ in range(many)]
    signal, tick = [], begin
    for number in text:
        lasts = [rng.randint(low, high) for _ in plain_frame(shape, 0)]
        signal += sent_unevenly(shape, [number], tick, lasts)
        tick += sum(lasts) + rng.choice([0, 0, 1, low, high, 7 * high])
    return text, signal


def long_signal(rng, lasts, many):
    """A signal with so many changes whose runs last one of these numbers of ticks each."""
    signal = [-10 ** 6]
    while len(signal) < many:
        signal.append(signal[-1] + rng.choice(lasts))
    return signal


class ExampleTest(unittest.TestCase):
    def test_count_texts(self):
        self.assertEqual(count_texts((2, "none", 1), 2, 3, [0, 6]), 2)
        self.assertIs(is_possible((2, "none", 1), 7, 9, [0, 6]), False)

    def test_texts(self):
        told = ((3, "none", 1), 2, 4, [0, 2, 10, 12])
        self.assertEqual([nth_text(*told, 0), nth_text(*told, 1), text_index(*told, [7, 7])], [[3], [7, 7], 1])
        self.assertEqual([fewest_numbers(*told), most_numbers(*told), sure_numbers(*told)], [1, 2, [None]])

    def test_least_high(self):
        self.assertEqual([least_high((2, "none", 1), low, [0, 6]) for low in [2, 4, 7]], [2, 6, None])


class AllTextsTest(unittest.TestCase):
    """Small shapes, spans and signals, with all texts and all ways in which their levels can last."""

    CASES = [((1, "none", 1), 1, 1, 10), ((1, "none", 1), 1, 2, 9), ((1, "none", 1), 2, 3, 12),
             ((1, "none", 1), 2, 2, 12), ((1, "none", 2), 1, 2, 9), ((1, "even", 1), 1, 2, 9),
             ((1, "odd", 2), 1, 2, 10), ((2, "none", 1), 1, 2, 10), ((2, "none", 1), 2, 3, 12),
             ((2, "even", 1), 1, 2, 9), ((2, "odd", 1), 1, 3, 9), ((2, "none", 2), 1, 4, 8),
             ((1, "none", 1), 3, 5, 12)]

    def test_all_signals(self):
        for shape, low, high, most in self.CASES:
            found = sendings_up_to(shape, low, high, most)
            for signal in signals_up_to(most):
                expected = sorted(list(text) for text in found.get(tuple(signal), []))
                told = (shape, low, high, signal)
                self.assertEqual(count_texts(*told), len(expected), told)
                self.assertIs(is_possible(*told), expected != [])
                self.assertEqual(plain_count(*told), len(expected), told)
                if expected:
                    self.check_texts(told, expected)
                else:
                    self.check_impossible(told)

    def check_texts(self, told, expected):
        for index, text in enumerate(expected):
            self.assertEqual(nth_text(*told, index), text)
            self.assertEqual(text_index(*told, text), index)
        for index in (-1, len(expected), len(expected) + 1):
            with self.assertRaises(InvalidNumber):
                nth_text(*told, index)
        lengths = [len(text) for text in expected]
        self.assertEqual((fewest_numbers(*told), most_numbers(*told)), (min(lengths), max(lengths)))
        columns = [sorted({text[at] for text in expected}) for at in range(min(lengths))]
        self.assertEqual(sure_numbers(*told), [row[0] if len(row) == 1 else None for row in columns])
        for text in [[], [0], [0, 0], [1], expected[0] + [0], expected[-1][:-1]]:
            if text not in expected:
                with self.assertRaises(Impossible):
                    text_index(*told, text)

    def check_impossible(self, told):
        # Each of them for a part of the signals only: there are many of these.
        for function, rest in [(nth_text, [0]), (text_index, [[0]]), (text_index, [[]]), (fewest_numbers, []),
                               (most_numbers, []), (sure_numbers, [])][sum(told[3]) % 3::3]:
            with self.assertRaises(Impossible):
                function(*told, *rest)

    def test_least_high(self):
        for shape, most in [((1, "none", 1), 10), ((1, "even", 1), 9), ((2, "none", 1), 9), ((1, "none", 2), 9)]:
            tables = {(low, high): sendings_up_to(shape, low, high, most)
                      for low in range(1, 4) for high in (low, low + 1, low + 2)}
            for signal in signals_up_to(most):
                for low in range(1, 4):
                    found = least_high(shape, low, signal)
                    self.assertTrue(found is None or found >= low)
                    for high in (low, low + 1, low + 2):
                        shown = tuple(signal) in tables[low, high]
                        self.assertIs(shown, found is not None and found <= high, (shape, low, high, signal))

    def test_least_high_is_the_least_one(self):
        for shape in [(1, "none", 1), (2, "odd", 1), (3, "none", 2)]:
            kinds = set()
            for signal in signals_up_to(10):
                for low in (1, 2, 3):
                    found = least_high(shape, low, signal)
                    if found is None:
                        kinds.add(None)
                        self.assertFalse(is_possible(shape, low, 10 ** 6, signal))
                    else:
                        kinds.add(found - low)
                        self.assertTrue(is_possible(shape, low, found, signal))
                        self.assertTrue(found == low or not is_possible(shape, low, found - 1, signal))
            self.assertTrue({None, 0, 1, 2} <= kinds)


class EdgeTest(unittest.TestCase):
    def test_the_quiet_signal(self):
        for shape in [(1, "none", 1), (8, "none", 1), (9, "even", 2)]:
            for low, high in [(1, 1), (2, 5), (10 ** 29, 10 ** 30 - 1)]:
                told = (shape, low, high, [])
                self.assertEqual([is_possible(*told), count_texts(*told), nth_text(*told, 0)], [True, 1, []])
                self.assertEqual([fewest_numbers(*told), most_numbers(*told), sure_numbers(*told)], [0, 0, []])
                self.assertEqual([text_index(*told, []), least_high(shape, low, [])], [0, low])
                with self.assertRaises(InvalidNumber):
                    nth_text(*told, 1)
                with self.assertRaises(Impossible):
                    text_index(*told, [0])

    def test_signals_that_end_with_the_level_0(self):
        for signal in ([0], [-5, 3, 9], list(range(0, 199 * 3, 3))):
            told = ((2, "none", 1), 1, 100, signal)
            self.assertEqual((is_possible(*told), count_texts(*told)), (False, 0))
            self.assertIsNone(least_high((2, "none", 1), 1, signal))
            for function, rest in [(nth_text, [0]), (text_index, [[0]]), (fewest_numbers, []), (most_numbers, []),
                                   (sure_numbers, [])]:
                with self.assertRaises(Impossible):
                    function(*told, *rest)

    def test_a_run_of_0_that_is_too_short_or_too_long(self):
        shape = (2, "none", 1)
        self.assertEqual([is_possible(shape, 3, 5, [0, ticks]) for ticks in (2, 3, 15, 16)],
                         [False, True, True, False])
        # 3 * 3 is 9, 2 * 4 is 8: between the spans of two and of three levels there can be none.
        self.assertEqual([is_possible(shape, 5, 6, [0, ticks]) for ticks in (6, 7, 9, 10, 12, 13, 14, 15)],
                         [True, False, False, True, True, False, False, True])

    def test_the_quiet_time_behind_a_frame(self):
        shape = (1, "none", 1)
        # The bit is 0, and the stop bit is quiet: a gap can be of any ticks from 0 on.
        for gap in (4, 5, 9, 10, 100, 10 ** 29):
            self.assertEqual(count_texts(shape, 4, 4, [0, 8, 8 + gap, 16 + gap]), 1)
        self.assertEqual(count_texts(shape, 4, 4, [0, 8, 11, 19]), 0)
        # With a high of 4 the stop bits must last two levels.
        self.assertEqual(count_texts((1, "none", 2), 4, 4, [0, 8, 16, 24]), 1)
        self.assertEqual(count_texts((1, "none", 2), 4, 4, [0, 8, 15, 23]), 0)

    def test_two_hundred_changes_and_one_more(self):
        shape = (1, "none", 1)
        signal = list(range(0, 200 * 2, 2))
        told = (shape, 2, 2, signal)
        self.assertEqual(count_texts(*told), plain_count(*told))
        for more in (signal + [400], list(range(801)), [None] * 201, [0] * 300):
            for function, rest in [(is_possible, []), (count_texts, []), (nth_text, [0]), (text_index, [[0]]),
                                   (fewest_numbers, []), (most_numbers, []), (sure_numbers, [])]:
                with self.assertRaises(InvalidSignal) as caught:
                    function(shape, 2, 2, more, *rest)
                self.assertIsNone(caught.exception.index)
            with self.assertRaises(InvalidSignal) as caught:
                least_high(shape, 2, more)
            self.assertIsNone(caught.exception.index)


class LongSignalTest(unittest.TestCase):
    def test_counts_of_all_shapes(self):
        rng = random.Random(37)
        possible = 0
        for shape in ALL_SHAPES:
            for low, high, lasts in [(3, 5, [3, 4, 5, 8]), (10, 19, list(range(10, 60))), (1, 100, [1, 2, 50])]:
                for many in (2, 6, 20):
                    told = (shape, low, high, long_signal(rng, lasts, many))
                    count = count_texts(*told)
                    self.assertEqual(count, plain_count(*told), told)
                    if count:
                        possible += 1
                        self.check_some_texts(rng, told, count)
        self.assertGreater(possible, 150)

    def test_counts_of_200_changes(self):
        rng = random.Random(38)
        for shape in [(1, "none", 1), (2, "even", 1), (8, "none", 1), (9, "none", 1), (9, "odd", 2)]:
            for low, high, lasts in [(10, 19, list(range(10, 60))), (1, 10 ** 6, list(range(20, 90)))]:
                told = (shape, low, high, long_signal(rng, lasts, 200))
                count = count_texts(*told)
                self.assertEqual(count, plain_count(*told))
                if count:
                    self.check_some_texts(rng, told, count)

    def check_some_texts(self, rng, told, count):
        indexes = sorted({0, count - 1, count // 2, rng.randrange(count)})
        texts = [nth_text(*told, index) for index in indexes]
        self.assertEqual(texts, sorted(texts))
        self.assertEqual(len({tuple(text) for text in texts}), len(indexes))
        fewest, most, sure = fewest_numbers(*told), most_numbers(*told), sure_numbers(*told)
        self.assertEqual(len(sure), fewest)
        for index, text in zip(indexes, texts):
            self.assertEqual(text_index(*told, text), index)
            self.assertTrue(fewest <= len(text) <= most)
            self.assertTrue(all(number in (None, text[at]) for at, number in enumerate(sure)))
        with self.assertRaises(InvalidNumber):
            nth_text(*told, count)

    def test_the_text_that_was_sent_is_among_them(self):
        rng = random.Random(39)
        for shape in ALL_SHAPES:
            for low, high in [(3, 3), (3, 4), (10, 19), (150, 170), (10 ** 29, 10 ** 29 + 10 ** 27), (1, 10 ** 29)]:
                many = rng.randint(1, 8)
                text, signal = wandering(rng, shape, low, high, many, rng.choice([0, -5, 10 ** 29]))
                told = (shape, low, high, signal)
                self.assertEqual(nth_text(*told, text_index(*told, text)), text)
                self.assertTrue(fewest_numbers(*told) <= many <= most_numbers(*told))
                self.assertLessEqual(least_high(shape, low, signal), high)

    def test_one_length_tells_the_text(self):
        rng = random.Random(40)
        for shape in ALL_SHAPES:
            for length in (1, 160, 10 ** 30 - 1):
                text, signal = wandering(rng, shape, length, length, 12, 0)
                told = (shape, length, length, signal)
                self.assertEqual([count_texts(*told), nth_text(*told, 0), sure_numbers(*told)], [1, text, text])
                self.assertEqual([fewest_numbers(*told), most_numbers(*told)], [12, 12])
                self.assertEqual(least_high(shape, length, signal), length)

    def test_a_hundred_numbers(self):
        shape = (9, "none", 1)
        signal = []
        for at in range(100):
            signal += [at * 110, at * 110 + 10]
        told = (shape, 10, 10, signal)
        self.assertEqual(nth_text(*told, 0), [511] * 100)
        self.assertEqual(text_index(*told, [511] * 100), 0)
        for numbers in ([511] * 99, [511] * 99 + [510]):
            with self.assertRaises(Impossible):
                text_index(*told, numbers)
        with self.assertRaises(InvalidText) as caught:
            text_index(*told, [511] * 101)
        self.assertIsNone(caught.exception.index)

    def test_indexes_of_many_digits(self):
        rng = random.Random(41)
        shape = (9, "none", 1)
        told = (shape, 1, 10 ** 29, [10 ** 28 * tick for tick in long_signal(rng, list(range(12, 40)), 200)])
        count = count_texts(*told)
        self.assertGreater(count, 10 ** 80)
        self.assertEqual(count, plain_count(*told))
        self.check_some_texts(rng, told, count)
        for index in (count, count + 1, 10 ** 300, -1, -count):
            with self.assertRaises(InvalidNumber):
                nth_text(*told, index)

    def test_neighbouring_indexes_are_ascending_texts(self):
        rng = random.Random(42)
        told = ((4, "even", 1), 10, 29, long_signal(rng, list(range(10, 80)), 40))
        count = count_texts(*told)
        self.assertGreater(count, 200)
        for begin in (0, count // 3, count - 50):
            texts = [nth_text(*told, index) for index in range(begin, begin + 50)]
            self.assertTrue(all(one < other for one, other in zip(texts, texts[1:])))

    def test_sure_numbers_of_both_kinds(self):
        # The first frame is told by its one length of ticks, the second one is not.
        shape = (2, "none", 1)
        signal = sent(shape, 10, [(0, 1), (400, 2)])
        told = (shape, 10, 20, signal)
        texts = [nth_text(*told, index) for index in range(count_texts(*told))]
        self.assertEqual(sure_numbers(*told), [1, None])
        self.assertEqual(sorted({text[1] for text in texts}), [2, 3])

    def test_least_high_of_long_signals(self):
        rng = random.Random(43)
        for shape in [(1, "none", 1), (4, "odd", 1), (8, "none", 1), (9, "none", 1)]:
            for by in (1, 10 ** 28):
                signal = multiplied(long_signal(rng, list(range(10, 60)), 200), by)
                for low in (1, 10 * by, 11 * by, 60 * by):
                    high = least_high(shape, low, signal)
                    if high is None:
                        self.assertFalse(is_possible(shape, low, 10 ** 31, signal))
                        continue
                    self.assertTrue(is_possible(shape, low, high, signal))
                    self.assertTrue(high == low or not is_possible(shape, low, high - 1, signal))


class MovedTest(unittest.TestCase):
    def test_moved_and_multiplied_signals(self):
        rng = random.Random(44)
        for shape in [(1, "none", 1), (3, "even", 2), (8, "none", 1)]:
            signal = long_signal(rng, list(range(10, 60)), 30)
            told = (shape, 10, 19, signal)
            count = count_texts(*told)
            for by in (-3, 10 ** 29):
                self.assertEqual(count_texts(shape, 10, 19, moved(signal, by)), count)
            for by in (2, 10 ** 28):
                wide = (shape, 10 * by, 19 * by, multiplied(signal, by))
                self.assertEqual(count_texts(*wide), count)
                self.assertEqual(least_high(shape, 10 * by, wide[3]) is None, least_high(shape, 10, signal) is None)


class OrderOfErrorsTest(unittest.TestCase):
    TOLD = ((3, "none", 1), 2, 4, [0, 2, 10, 12])

    def test_impossible_comes_behind_the_arguments_of_point_34(self):
        shape, low, high, signal = self.TOLD
        for function in PARTS:
            rest = {nth_text: [0], text_index: [[7, 7]]}.get(function, [])
            for told, error in [((None, 0, 0, [0]), InvalidShape), ((shape, 0, 0, [0]), InvalidLength),
                                ((shape, low, 1, [0]), InvalidLength), ((shape, low, high, [0, 0]), InvalidSignal),
                                ((shape, low, high, [0]), Impossible), ((shape, low, high, [0, 1]), Impossible)]:
                with self.assertRaises(error):
                    function(*told, *rest)

    def test_impossible_comes_ahead_of_a_wrong_index(self):
        for index in NO_INTEGERS + [-1, 0, 1, HUGE]:
            for signal in ([0], [0, 1], [0, 2, 10, 12, 13, 14]):
                with self.assertRaises(Impossible):
                    nth_text((3, "none", 1), 2, 4, signal, index)

    def test_a_wrong_text_comes_ahead_of_impossible(self):
        for signal in ([0], [0, 1], [0, 2, 10, 12]):
            for numbers, index in [((7, 7), None), ([0] * 101, None), ([8], 0), ([7, True], 1), (None, None)]:
                with self.assertRaises(InvalidText) as caught:
                    text_index((3, "none", 1), 2, 4, signal, numbers)
                self.assertEqual(caught.exception.index, index)
            for numbers in ([], [0], [7], [7, 7, 7], [3, 7], [7] * 100):
                with self.assertRaises(Impossible):
                    text_index((3, "none", 1), 2, 4, signal, numbers)


class NewListTest(unittest.TestCase):
    def test_levels_of_the_texts_lead_back(self):
        # The levels of a text, each one tick long, are a signal that can be this text with gaps or without.
        shape = (3, "none", 1)
        for text in [[3], [7, 7], [0, 5, 2]]:
            levels = dict(enumerate(levels_of(shape, text)))
            signal = changes_in(levels, 0, len(levels) + 1)
            self.assertEqual(nth_text(shape, 1, 1, signal, 0), text)
            self.assertEqual(records.count_texts(shape, 1, 1, signal), 1)


if __name__ == "__main__":
    unittest.main()
