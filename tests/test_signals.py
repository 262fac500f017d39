"""Points 5, 7, 13, 14 and 15: signals, sendings and signals made of others."""

import unittest

from startbits.errors import TooLarge
from startbits.shapes import size_of
from startbits.signals import is_signal, level_at, moved, multiplied, runs_between
from startbits.signals import sent, sent_text, sent_unevenly, together
from tests.reference import ALL_SHAPES, changes_in, plain_frame, plain_level, signal_of
from tests.values import signal_faults

BIG = 10 ** 29
SIGNALS = [[], [0], [-1], [0, 3, 7], [-5, -4, 0, 1, 2, 9], [2, 4, 6, 8], [1, 2, 3, 4, 5], [-9, 9], [-3, 0, 3]]


def texts_of(shape):
    most = 2 ** shape[0] - 1
    return [[], [0], [most], [0, 0], [most, most], [0, most, most // 3, 1], [1, most - 1]]


class ExampleTest(unittest.TestCase):
    def test_the_definition_of_a_signal(self):
        levels = [level_at([0, 3, 7], tick) for tick in range(-1, 9)]
        self.assertEqual(levels, [1, 0, 0, 0, 1, 1, 1, 1, 0, 0])

    def test_level_at(self):
        levels = [level_at([0, 3, 7], tick) for tick in [-1, 0, 2, 3, 7, 10 ** 29]]
        self.assertEqual(levels, [1, 0, 0, 1, 0, 0])

    def test_runs_between(self):
        found = [runs_between([0, 3, 7], -2, 5), runs_between([0, 3, 7], 4, 6)]
        self.assertEqual(found, [[(1, 2), (0, 3), (1, 2)], [(1, 2)]])

    def test_sent(self):
        found = [sent((1, "none", 1), 10, [(5, 1), (40, 0)]), sent_text((1, "none", 1), 10, [1, 0], -10)]
        self.assertEqual(found, [[5, 15, 40, 60], [-10, 0, 20, 40]])

    def test_sent_unevenly(self):
        found = sent_unevenly((2, "none", 1), [1, 3], 0, [2, 3, 4, 5, 2, 2, 2, 2])
        self.assertEqual(found, [0, 2, 5, 9, 14, 16])

    def test_moved_and_multiplied(self):
        found = [moved([0, 3], -5), multiplied([-1, 3], 10 ** 20)]
        self.assertEqual(found, [[-5, -2], [-100000000000000000000, 300000000000000000000]])

    def test_together(self):
        found = [together([0, 3, 7, 9], [2, 5, 9, 11]), together([], []), together([4], [0, 2])]
        self.assertEqual(found, [[0, 5, 7, 11], [], [0, 2, 4]])


class SignalTest(unittest.TestCase):
    def test_what_is_a_signal(self):
        for signal in SIGNALS + [list(range(800)), [-BIG, 0, BIG], [10 ** 40, 10 ** 41]]:
            self.assertIs(is_signal(signal), True)

    def test_what_is_no_signal(self):
        for value, _, _ in signal_faults():
            self.assertIs(is_signal(value), False)

    def test_none_800_and_801_changes(self):
        found = [is_signal(list(range(many))) for many in (0, 1, 799, 800, 801, 1000)]
        self.assertEqual(found, [True, True, True, True, False, False])

    def test_levels(self):
        for signal in SIGNALS:
            for tick in range(-12, 13):
                self.assertEqual(level_at(signal, tick), plain_level(signal, tick))

    def test_levels_far_away(self):
        self.assertEqual([level_at([], tick) for tick in (-BIG, 0, BIG)], [1, 1, 1])
        signal = [-BIG, -BIG + 1, BIG]
        ticks = [-BIG - 1, -BIG, -BIG + 1, 0, BIG - 1, BIG]
        self.assertEqual([level_at(signal, tick) for tick in ticks], [1, 0, 1, 1, 1, 0])
        full = list(range(800))
        self.assertEqual([level_at(full, tick) for tick in (-1, 0, 1, 798, 799, BIG)], [1, 0, 1, 0, 1, 1])


class RunsTest(unittest.TestCase):
    def test_all_small_stretches(self):
        for signal in SIGNALS:
            for begin in range(-11, 11):
                for end in range(begin + 1, 12):
                    runs = runs_between(signal, begin, end)
                    levels = [level for level, ticks in runs for _ in range(ticks)]
                    self.assertEqual(levels, [plain_level(signal, tick) for tick in range(begin, end)])
                    self.assertTrue(all(ticks > 0 for _, ticks in runs))
                    self.assertTrue(all(one[0] != other[0] for one, other in zip(runs, runs[1:])))
                    self.assertEqual({type(run) for run in runs}, {tuple})

    def test_long_stretches(self):
        self.assertEqual(runs_between([], -BIG, BIG), [(1, 2 * BIG)])
        self.assertEqual(runs_between([0], -BIG, BIG), [(1, BIG), (0, BIG)])
        self.assertEqual(runs_between([-BIG, 5], -BIG, -BIG + 1), [(0, 1)])
        full = list(range(800))
        self.assertEqual(runs_between(full, 0, 800), [(at % 2, 1) for at in range(800)])


class SentTest(unittest.TestCase):
    def test_texts_of_all_shapes(self):
        for shape in ALL_SHAPES:
            for numbers in texts_of(shape):
                for length, begin in [(1, 0), (2, -7), (3, 40)]:
                    self.check_text(shape, length, numbers, begin)

    def check_text(self, shape, length, numbers, begin):
        levels = [level for number in numbers for level in plain_frame(shape, number)]
        signal = signal_of([(begin, levels, [length] * len(levels))])
        frame_ticks = size_of(shape) * length
        sending = [(begin + at * frame_ticks, number) for at, number in enumerate(numbers)]
        self.assertEqual(sent_text(shape, length, numbers, begin), signal)
        self.assertEqual(sent(shape, length, sending), signal)
        self.assertEqual(sent_unevenly(shape, numbers, begin, [length] * len(levels)), signal)

    def test_frames_with_gaps(self):
        for shape in ALL_SHAPES:
            most = 2 ** shape[0] - 1
            for length in (1, 3):
                frame_ticks = size_of(shape) * length
                for gap in (0, 1, 2, 50):
                    second = -20 + frame_ticks + gap
                    third = second + frame_ticks
                    sending = [(-20, most // 2), (second, 0), (third, most)]
                    lasts = [length] * size_of(shape)
                    frames = [(tick, plain_frame(shape, number), lasts) for tick, number in sending]
                    self.assertEqual(sent(shape, length, sending), signal_of(frames))

    def test_neighbouring_levels_that_are_the_same(self):
        self.assertEqual(sent((8, "none", 1), 10, [(0, 255)]), [0, 10])
        self.assertEqual(sent((8, "none", 2), 10, [(0, 0)]), [0, 90])
        self.assertEqual(sent_text((8, "even", 1), 1, [0, 255], 0), [0, 10, 11, 12, 20, 21])
        self.assertEqual(sent_unevenly((2, "none", 2), [0], 3, [1, 2, 3, 4, 5]), [3, 9])

    def test_uneven_lengths(self):
        for shape in ALL_SHAPES:
            for numbers in texts_of(shape):
                levels = [level for number in numbers for level in plain_frame(shape, number)]
                lasts = [1 + 5 * at % 7 for at in range(len(levels))]
                self.assertEqual(sent_unevenly(shape, numbers, -30, lasts), signal_of([(-30, levels, lasts)]))

    def test_nothing_sent(self):
        self.assertEqual(sent((8, "none", 1), 160, []), [])
        self.assertEqual(sent_text((8, "none", 1), 160, [], 7), [])
        self.assertEqual(sent_unevenly((8, "none", 1), [], 7, []), [])

    def test_sixty_numbers(self):
        shape, numbers = (9, "odd", 2), [341] * 60
        levels = plain_frame(shape, 341) * 60
        signal = signal_of([(0, levels, [2] * len(levels))])
        self.assertEqual(len(signal), 720)
        self.assertEqual(sent_text(shape, 2, numbers, 0), signal)
        self.assertEqual(sent(shape, 2, [(26 * at, 341) for at in range(60)]), signal)
        self.assertEqual(sent_unevenly(shape, numbers, 0, [2] * 780), signal)
        self.assertIs(is_signal(signal), True)

    def test_ticks_and_lengths_of_thirty_digits(self):
        shape, length = (1, "none", 1), 10 ** 30 - 1
        self.assertEqual(sent_text(shape, length, [1, 0], -length), [-length, 0, 2 * length, 4 * length])
        self.assertEqual(sent(shape, length, [(-length, 1), (2 * length, 0)]), [-length, 0, 2 * length, 4 * length])
        self.assertEqual(sent_unevenly(shape, [0], -BIG, [BIG, length, 1]), [-BIG, length])

    def test_frames_that_touch_at_great_ticks(self):
        shape = (8, "none", 1)
        touching = [(BIG, 0), (BIG + 1600, 0)]
        self.assertEqual(sent(shape, 160, touching), [BIG, BIG + 1440, BIG + 1600, BIG + 3040])


class MadeOfOthersTest(unittest.TestCase):
    def test_moved(self):
        for signal in SIGNALS + [list(range(800))]:
            for by in (0, 1, -1, BIG, -BIG):
                self.assertEqual(moved(signal, by), [tick + by for tick in signal])
        self.assertEqual(level_at(moved([0, 3], 10), 10), 0)

    def test_multiplied(self):
        for signal in SIGNALS + [list(range(800))]:
            for by in (1, 2, BIG):
                self.assertEqual(multiplied(signal, by), [tick * by for tick in signal])
        self.assertEqual(multiplied([-2, 0, 5], 3), [-6, 0, 15])

    def test_together_of_small_signals(self):
        signals = SIGNALS + [[tick for tick in range(6) if code >> tick & 1] for code in range(64)]
        for one in signals:
            for other in signals:
                both = {tick: plain_level(one, tick) & plain_level(other, tick) for tick in range(-12, 13)}
                self.assertEqual(together(one, other), changes_in(both, -12, 13))

    def test_together_at_great_ticks(self):
        self.assertEqual(together([-BIG, BIG], [BIG, BIG + 1]), [-BIG, BIG + 1])
        self.assertEqual(together([-BIG], [BIG]), [-BIG])

    def test_together_of_the_same_signal(self):
        full = list(range(800))
        self.assertEqual(together(full, full), full)
        self.assertEqual(together(full, []), full)
        self.assertEqual(together([], full), full)
        self.assertEqual(together(full, [0]), [0])
        self.assertEqual(together(full, [-1]), [-1])
        self.assertEqual(together(full, list(range(1, 801))), [0, 800])

    def test_together_with_800_changes(self):
        one = [tick for at in range(200) for tick in (4 * at, 4 * at + 1)]
        other = [tick + 2 for tick in one]
        self.assertEqual(together(one, other), sorted(one + other))
        self.assertEqual(len(together(one, other)), 800)

    def test_together_with_more_changes(self):
        one = [tick for at in range(200) for tick in (4 * at, 4 * at + 1)]
        other = [tick + 2 for tick in one] + [900]
        full = list(range(800))
        for pair in [(one, other), (other, one), (full, [900]), ([-2, -1], full), (full, moved(full, 1000))]:
            with self.assertRaises(TooLarge) as caught:
                together(*pair)
            self.assertEqual(caught.exception.limit, 800)


if __name__ == "__main__":
    unittest.main()
