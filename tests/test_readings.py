"""Points 8, 9, 16, 17 and 18: receivers, their looks, what they read and their states."""

import random
import unittest

from startbits.readings import first_look, is_read_right, is_receiver, looks_of, readings, state_behind
from startbits.shapes import size_of
from startbits.signals import moved, multiplied, sent, sent_text
from tests.reference import ALL_SHAPES, PlainReceiver, plain_frame, plain_horizon, plain_is_right, plain_level
from tests.reference import plain_readings
from tests.values import receiver_faults

BIG = 10 ** 29
SMALL_SHAPES = [(1, "none", 1), (1, "odd", 1), (2, "even", 2), (3, "none", 2), (3, "odd", 2), (4, "even", 1)]
RECEIVERS = [(1, 0, 1), (1, 1, 1), (1, 2, 4), (2, 0, 1), (2, 1, 2),
             (3, 0, 2), (3, 4, 1), (5, 1, 1), (1, 7, 2), (4, 9, 3)]
UART, SIXTEEN = (8, "none", 1), (10, 8, 16)


def random_signal(rng, many, widest):
    """A signal of so many changes, each one up to so many ticks behind the one before."""
    ticks = [rng.randint(-30, 10)]
    while len(ticks) < many:
        ticks.append(ticks[-1] + rng.randint(1, widest))
    return ticks[:many]


def random_signals(seed, many, most):
    rng = random.Random(seed)
    return [random_signal(rng, rng.randint(0, most), rng.choice([1, 2, 3, 9, 40])) for _ in range(many)]


class ExampleTest(unittest.TestCase):
    def test_the_definition_of_a_receiver(self):
        shape, receiver = (1, "none", 1), (1, 0, 1)
        self.assertEqual(looks_of(shape, receiver, 0), [0, 1, 2])
        self.assertEqual(readings(shape, receiver, 0, [0, 1]), [(0, "good", 1)])
        self.assertEqual(readings(shape, receiver, 0, [0, 1, 2, 3]), [(0, "frame", 1)])
        states = [state_behind(shape, receiver, 0, [0, 1, 2, 3], tick)[0] for tick in range(-1, 5)]
        self.assertEqual(states, ["idle", "frame", "frame", "waiting", "idle", "idle"])
        self.assertEqual(readings(shape, receiver, 0, [0, 3]), [(0, "break", 0)])
        self.assertEqual(readings(shape, (1, 2, 4), 0, [0, 1]), [])
        states = [state_behind(shape, (1, 2, 4), 0, [0, 1], tick) for tick in range(4)]
        self.assertEqual(states, [("frame", 2), ("frame", 2), ("idle", None), ("idle", None)])
        # The receiver is idle from tick 3 on: there it sees a start bit again.
        self.assertEqual(readings(shape, (1, 2, 4), 0, [0, 1, 3, 6]), [(3, "good", 1)])

    def test_first_look(self):
        self.assertEqual([first_look((10, 8, 16), 3, tick) for tick in [-100, 3, 4, 13, 14]], [3, 3, 13, 13, 23])

    def test_looks_of(self):
        found = [looks_of((1, "none", 1), (10, 8, 16), 7), looks_of((1, "none", 1), (5, 0, 2), 0)]
        self.assertEqual(found, [[87, 247, 407], [0, 10, 20]])

    def test_readings(self):
        found = [readings((1, "none", 1), (1, 0, 1), 0, signal) for signal in [[0, 1], [0, 1, 2, 3], [0, 3], [0]]]
        self.assertEqual(found, [[(0, "good", 1)], [(0, "frame", 1)], [(0, "break", 0)], [(0, "break", 0)]])
        signal = sent_text(UART, 160, [65, 66], 10 ** 20)
        expected = [(100000000000000000004, "good", 65), (100000000000000001604, "good", 66)]
        self.assertEqual(readings(UART, SIXTEEN, 4, signal), expected)
        signal = sent_text(UART, 169, [0], 0)
        found = [readings(UART, SIXTEEN, phase, signal) for phase in [0, 3]]
        self.assertEqual(found, [[(0, "break", 0)], [(3, "good", 0)]])

    def test_state_behind(self):
        found = [state_behind((1, "none", 1), (10, 8, 16), 0, [5, 900], tick) for tick in [9, 10, 89, 90]]
        self.assertEqual(found, [("idle", None), ("frame", 90), ("frame", 90), ("frame", 250)])
        found = [state_behind((1, "none", 1), (10, 8, 16), 0, [5, 900], tick) for tick in [409, 410, 899, 900]]
        self.assertEqual(found, [("frame", 410), ("waiting", None), ("waiting", None), ("idle", None)])


class ReceiverTest(unittest.TestCase):
    def test_what_is_a_receiver(self):
        for receiver in RECEIVERS + [(1, 0, 1), (BIG, BIG, BIG), (10 ** 40, 0, 10 ** 40)]:
            self.assertIs(is_receiver(receiver), True)

    def test_what_is_no_receiver(self):
        for value, _, _ in receiver_faults():
            self.assertIs(is_receiver(value), False)


class LookTest(unittest.TestCase):
    def test_first_looks(self):
        for grain in (1, 2, 3, 10):
            for phase in range(-12, 13):
                looks = list(range(phase, 80, grain))
                for tick in range(-30, 40):
                    expected = min(look for look in looks if look >= tick)
                    self.assertEqual(first_look((grain, 5, 5), phase, tick), expected)

    def test_first_looks_far_away(self):
        self.assertEqual(first_look((10, 8, 16), -BIG + 3, BIG), BIG + 3)
        self.assertEqual(first_look((10, 8, 16), BIG, -BIG), BIG)
        self.assertEqual(first_look((BIG, 0, 1), -5, -4), BIG - 5)
        self.assertEqual(first_look((7, 0, 1), 3, 10 ** 60), 10 ** 60 + (3 - 10 ** 60) % 7)

    def test_looks_of_all_shapes(self):
        for shape in ALL_SHAPES:
            for grain, wait, step in RECEIVERS:
                expected = [-9 + grain * (wait + step * at) for at in range(size_of(shape))]
                self.assertEqual(looks_of(shape, (grain, wait, step), -9), expected)
        expected = [BIG + BIG * (BIG + BIG * at) for at in range(3)]
        self.assertEqual(looks_of((1, "none", 1), (BIG, BIG, BIG), BIG), expected)


class ReadingTest(unittest.TestCase):
    def test_look_by_look(self):
        for seed, shape in enumerate(SMALL_SHAPES):
            for signal in random_signals(seed, 40, 25):
                for receiver in RECEIVERS:
                    for phase in (-35, 0, signal[0] if signal else 7):
                        expected = plain_readings(shape, receiver, phase, signal)
                        self.assertEqual(readings(shape, receiver, phase, signal), expected)

    def test_each_signal_of_few_ticks(self):
        signals = [[tick for tick in range(8) if code >> tick & 1] for code in range(2 ** 8)]
        for shape in [(1, "none", 1), (1, "none", 2), (1, "even", 1), (2, "odd", 2)]:
            for receiver in [(1, 0, 1), (1, 1, 1), (1, 2, 1), (2, 0, 1), (1, 0, 2)]:
                for signal in signals:
                    expected = plain_readings(shape, receiver, 0, signal)
                    self.assertEqual(readings(shape, receiver, 0, signal), expected)

    def test_all_shapes_read_their_texts(self):
        for shape in ALL_SHAPES:
            most = 2 ** shape[0] - 1
            numbers = [0, most, most // 3, most, 0]
            for phase in (-25, 0, 9):
                signal = sent_text(shape, 160, numbers, 0)
                found = readings(shape, SIXTEEN, phase, signal)
                self.assertEqual([(word, number) for _, word, number in found], [("good", n) for n in numbers])
                self.assertTrue(is_read_right(shape, SIXTEEN, phase, signal, numbers))

    def test_a_text_of_sixty_numbers_of_the_largest_shape(self):
        shape, numbers = (9, "even", 2), [0, 511, 341] * 20
        signal = sent_text(shape, 160, numbers, 5)
        self.assertTrue(is_read_right(shape, (10, 8, 16), 0, signal, numbers))
        self.assertFalse(is_read_right(shape, (10, 8, 16), 0, signal, numbers[:59]))

    def test_one_level_turned_over_in_a_frame(self):
        for shape in ALL_SHAPES:
            bits, parity, stops = shape
            number = 5 % 2 ** bits
            for place in range(1, size_of(shape)):
                levels = plain_frame(shape, number)
                levels[place] = 1 - levels[place]
                line = [1] + levels + [1]
                signal = [at - 1 for at in range(1, len(line)) if line[at] != line[at - 1]]
                if place >= size_of(shape) - stops:
                    expected = (0, "frame" if 1 in levels[:place] else "break", number)
                elif place <= bits:
                    expected = (0, "good" if parity == "none" else "parity", number ^ 1 << place - 1)
                else:
                    expected = (0, "parity", number)
                self.assertEqual(readings(shape, (1, 0, 1), 0, signal)[0], expected)

    def test_breaks_and_frames_without_ones_among_the_bits(self):
        # The parity look sees 1, so this is no break, although the number is 0.
        self.assertEqual(readings((2, "odd", 1), (1, 0, 1), 0, [0, 3, 4]), [(0, "frame", 0)])
        self.assertEqual(readings((2, "odd", 1), (1, 0, 1), 0, [0]), [(0, "break", 0)])
        # The first stop look sees 1, the second one 0.
        self.assertEqual(readings((2, "none", 2), (1, 0, 1), 0, [0, 3, 4]), [(0, "frame", 0)])
        # The first stop look sees 0: the frame ends there, and the receiver waits for the 1 behind it.
        self.assertEqual(readings((2, "none", 2), (1, 0, 1), 0, [0, 4, 5, 8]), [(0, "break", 0), (5, "good", 0)])
        self.assertEqual(readings((2, "none", 2), (1, 0, 1), 0, [0, 1, 2]), [(0, "frame", 1)])

    def test_a_reading_with_a_wrong_parity_bit_frees_the_receiver_at_once(self):
        self.assertEqual(readings((1, "even", 1), (1, 0, 1), 0, [0, 1, 2, 3, 4, 5]),
                         [(0, "parity", 1), (4, "good", 1)])

    def test_false_starts(self):
        shape, receiver = (1, "none", 1), (1, 2, 4)
        self.assertEqual(readings(shape, receiver, 0, [0, 1, 3, 5, 7, 8]), [])
        self.assertEqual(readings(shape, receiver, 0, [0, 2, 3, 6]), [(3, "good", 1)])
        # The look that drops the frame is not the start look of the next one.
        self.assertEqual(readings(shape, receiver, 0, [0, 2, 4, 7]), [(4, "good", 1)])
        self.assertEqual(readings(shape, receiver, 0, [0, 1, 2, 3]), [(0, "good", 1)])
        # With a wait of 0 nothing is ever dropped.
        self.assertEqual(readings(shape, (1, 0, 4), 0, [0, 1, 20, 21]), [(0, "good", 1), (20, "good", 1)])

    def test_waits_above_the_step(self):
        self.assertEqual(readings((1, "none", 1), (1, 9, 2), 0, [0, 10]), [(0, "good", 1)])
        self.assertEqual(readings((1, "none", 1), (1, 9, 2), 0, [0, 13]), [(0, "good", 0)])
        self.assertEqual(readings((1, "none", 1), (1, 9, 2), 0, [0, 9]), [])

    def test_only_the_looks_count(self):
        # All this happens between looks.
        self.assertEqual(readings((1, "none", 1), (10, 0, 1), 0, [1, 9, 11, 19, 21, 29]), [])
        self.assertEqual(readings((1, "none", 1), (10, 0, 1), 0, [0, 1, 9, 10]), [(0, "good", 1)])
        self.assertEqual(readings((1, "none", 1), (10, 0, 1), 1, [1, 2, 10, 20]), [(1, "good", 0)])

    def test_phases_in_the_midst_of_a_signal(self):
        signal = sent_text((8, "none", 1), 160, [85, 85], 0)
        for phase in range(-40, 3400, 7):
            self.assertEqual(readings(UART, SIXTEEN, phase, signal), plain_readings(UART, SIXTEEN, phase, signal))

    def test_is_read_right_is_what_the_readings_tell(self):
        rng = random.Random(5)
        for shape in SMALL_SHAPES:
            for _ in range(60):
                numbers = [rng.randrange(2 ** shape[0]) for _ in range(rng.randint(0, 3))]
                receiver = (rng.randint(1, 4), rng.randint(0, 3), rng.randint(1, 4))
                length = rng.randint(1, 20)
                signal = sent_text(shape, length, numbers, rng.randint(-9, 9))
                phase = rng.randint(-20, 20)
                expected = plain_is_right(shape, receiver, phase, signal, numbers)
                self.assertIs(is_read_right(shape, receiver, phase, signal, numbers), expected)
                self.assertIs(is_read_right(shape, receiver, phase, signal, numbers + [0]),
                              plain_is_right(shape, receiver, phase, signal, numbers + [0]))

    def test_a_text_is_not_read_right_if_a_reading_is_not_good(self):
        self.assertFalse(is_read_right((1, "none", 1), (1, 0, 1), 0, [0, 1, 2, 3], [1]))
        self.assertFalse(is_read_right((1, "none", 1), (1, 0, 1), 0, [0], []))
        self.assertFalse(is_read_right((1, "none", 1), (1, 0, 1), 0, [0], [0]))
        self.assertFalse(is_read_right((1, "even", 1), (1, 0, 1), 0, [0, 1, 2, 3], [1]))
        self.assertTrue(is_read_right((1, "none", 1), (1, 0, 1), 0, [], []))
        self.assertTrue(is_read_right((1, "none", 1), (1, 2, 1), 0, [0, 1], []))


class LargeTest(unittest.TestCase):
    def test_quiet_lines(self):
        for receiver in [(1, 0, 1), (BIG, BIG, BIG), (1, BIG, 1)]:
            for phase in (-BIG, 0, BIG):
                self.assertEqual(readings(UART, receiver, phase, []), [])
                self.assertEqual(state_behind(UART, receiver, phase, [], 10 ** 60), ("idle", None))
        self.assertEqual(readings(UART, (1, 0, 1), BIG, [-5, BIG]), [])

    def test_lines_that_stay_0_for_long(self):
        shape, receiver = (1, "none", 1), (1, 0, 1)
        self.assertEqual(readings(shape, receiver, -BIG, [0, BIG]), [(0, "break", 0)])
        self.assertEqual(readings(shape, receiver, -BIG, [0, BIG, BIG + 1, BIG + 2]),
                         [(0, "break", 0), (BIG + 1, "good", 1)])
        # The look that ends the time of waiting does not begin a frame, the next one can.
        self.assertEqual(readings(shape, receiver, 0, [0, BIG, BIG + 1, BIG + 3]),
                         [(0, "break", 0), (BIG + 1, "good", 0)])
        # Between two looks of a waiting receiver this 1 is not seen.
        self.assertEqual(readings(shape, (10, 0, 1), 0, [0, BIG + 1, BIG + 9]), [(0, "break", 0)])
        states = [state_behind(shape, receiver, 0, [0, BIG], tick)[0] for tick in (-1, 1, 2, BIG - 1, BIG, 2 * BIG)]
        self.assertEqual(states, ["idle", "frame", "waiting", "waiting", "idle", "idle"])
        self.assertEqual(state_behind(shape, receiver, 0, [0], 10 ** 60), ("waiting", None))

    def test_phases_far_ahead_and_far_behind(self):
        signal = sent_text(UART, 160, [65, 66], BIG)
        for ahead in (0, 1, 10, 10 ** 20, 2 * BIG - 7):
            found = readings(UART, SIXTEEN, BIG - ahead, signal)
            begin = BIG + -ahead % 10
            self.assertEqual(found, [(begin, "good", 65), (begin + 1600, "good", 66)])
        self.assertEqual(readings(UART, SIXTEEN, BIG + 3200, signal), [])
        self.assertEqual(readings(UART, SIXTEEN, BIG + 1600, signal), [(BIG + 1600, "good", 66)])

    def test_all_ticks_multiplied(self):
        for seed, shape in enumerate(SMALL_SHAPES):
            for signal in random_signals(100 + seed, 10, 20):
                for grain, wait, step in RECEIVERS:
                    by = 10 ** 27
                    expected = [(tick * by, word, number)
                                for tick, word, number in plain_readings(shape, (grain, wait, step), -31, signal)]
                    found = readings(shape, (grain * by, wait, step), -31 * by, multiplied(signal, by))
                    self.assertEqual(found, expected)

    def test_large_waits_and_steps(self):
        shape, receiver = (1, "none", 1), (BIG, BIG, BIG)
        looks = looks_of(shape, receiver, 0)
        self.assertEqual(readings(shape, receiver, 0, [0, looks[1]]), [(0, "good", 1)])
        self.assertEqual(readings(shape, receiver, 0, [0, looks[1] + 1]), [(0, "good", 0)])
        self.assertEqual(readings(shape, receiver, 0, [0, looks[2]]), [(0, "good", 0)])
        self.assertEqual(readings(shape, receiver, 0, [0, looks[2] + 1]), [(0, "break", 0)])
        self.assertEqual(readings(shape, receiver, 0, [0, looks[0]]), [])
        self.assertEqual(state_behind(shape, receiver, 0, [0, looks[2]], looks[0] - 1), ("frame", looks[0]))
        self.assertEqual(state_behind(shape, receiver, 0, [0, looks[2]], looks[2] - 1), ("frame", looks[2]))

    def test_signals_of_800_changes(self):
        full = list(range(800))
        for shape in [(1, "none", 1), (1, "even", 2), (8, "none", 1), (9, "odd", 2)]:
            for receiver in [(1, 0, 1), (1, 1, 1), (2, 0, 1), (1, 3, 1), (3, 2, 2)]:
                for phase in (-5, 0, 1, 400):
                    self.assertEqual(readings(shape, receiver, phase, full),
                                     plain_readings(shape, receiver, phase, full))
        wide = moved(multiplied(full, 10 ** 26), -10 ** 28)
        found = readings((1, "none", 1), (10 ** 26, 0, 1), -10 ** 29, wide)
        self.assertEqual(len(found), len(readings((1, "none", 1), (1, 0, 1), 0, full)))
        alternating = sent((1, "none", 1), 10, [(30 * at, 1) for at in range(60)])
        self.assertEqual(len(readings((1, "none", 1), (1, 4, 10), 0, alternating)), 60)


class StateTest(unittest.TestCase):
    def plain_states(self, shape, receiver, phase, signal):
        """The state behind each tick, look by look, with the plain receiver."""
        line = PlainReceiver(shape, receiver)
        grain, wait, step = receiver
        states = {}
        for tick in range(phase - 3, plain_horizon(shape, receiver, phase, signal)):
            if tick >= phase and (tick - phase) % grain == 0:
                line.look(tick, plain_level(signal, tick))
            coming = None
            if line.state == "frame":
                coming = line.start + grain * (wait + step * len(line.seen))
            states[tick] = (line.state, coming)
        return states

    def test_tick_by_tick(self):
        for seed, shape in enumerate(SMALL_SHAPES):
            for signal in random_signals(200 + seed, 6, 12):
                for receiver in RECEIVERS:
                    expected = self.plain_states(shape, receiver, -20, signal)
                    found = {tick: state_behind(shape, receiver, -20, signal, tick) for tick in expected}
                    self.assertEqual(found, expected)

    def test_ahead_of_the_phase(self):
        for tick in (-BIG, -1, 6):
            self.assertEqual(state_behind(UART, SIXTEEN, 7, [-BIG], tick), ("idle", None))
        self.assertEqual(state_behind(UART, SIXTEEN, 7, [-BIG], 7), ("frame", 87))

    def test_a_wait_of_0(self):
        found = [state_behind((1, "none", 1), (5, 0, 2), 0, [0, 10], tick) for tick in (0, 9, 10, 19, 20)]
        self.assertEqual(found, [("frame", 10), ("frame", 10), ("frame", 20), ("frame", 20), ("idle", None)])

    def test_answers_are_of_their_kinds(self):
        self.assertIs(type(state_behind(UART, SIXTEEN, 0, [], 0)), tuple)
        for entry in readings(UART, SIXTEEN, 0, sent_text(UART, 160, [1, 2], 0)):
            self.assertEqual([type(entry), *map(type, entry)], [tuple, int, str, int])


if __name__ == "__main__":
    unittest.main()
