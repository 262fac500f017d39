"""Points 39, 40 and 41: signs that come late."""

import itertools
import random
import unittest

from startbits.errors import InvalidLength, InvalidNumber
from startbits.flow import least_low, lost_in, most_waiting, run_flow, worst_delay
from startbits.readings import looks_of, readings
from startbits.signals import sent_text
from startbits.speeds import safe_lengths
from tests.reference import ALL_SHAPES

WITHOUT_BOUND = 10 ** 9


def plain_run(flow, size, many, takes):
    """All that happens, tick by tick, as point 39 says it."""
    frame, delay, lag, low, high = flow
    events, begun, signs = [], [], []
    held = 0
    last_heard = last_given = None
    for tick in range(max(takes, default=0) + lag + (many + 1) * frame + delay + 1):
        for at, sign in signs:
            if at + lag == tick:
                last_heard = sign
        is_free = not begun or tick >= begun[-1] + frame
        if len(begun) < many and is_free and last_heard != "stop":
            begun.append(tick)
            events.append((tick, "begin"))
        if tick - delay in begun:
            is_lost = held == size
            held += not is_lost
            events.append((tick, "lost" if is_lost else "put"))
            if held >= high and last_given != "stop":
                last_given = "stop"
                signs.append((tick, "stop"))
                events.append((tick, "stop"))
        for _ in range(takes.count(tick)):
            events.append((tick, "take" if held else "empty"))
            held -= held > 0
            if held <= low and last_given == "stop":
                last_given = "go"
                signs.append((tick, "go"))
                events.append((tick, "go"))
    return events


def most_held(events):
    """The greatest number of numbers in the buffer."""
    held = most = 0
    for _, word in events:
        held += {"put": 1, "take": -1}.get(word, 0)
        most = max(most, held)
    return most


def some_flow(rng, most):
    low = rng.randint(0, 3)
    return (rng.randint(1, most), rng.randint(1, 3 * most), rng.randint(1, 3 * most), low, low + rng.randint(1, 3))


def some_takes(rng, last):
    return sorted(rng.randint(0, last) for _ in range(rng.choice([0, 1, 3, 8, 20])))


class ExampleTest(unittest.TestCase):
    def test_run_flow(self):
        found = run_flow((1600, 1520, 100, 1, 3), 4, 6, [])
        self.assertEqual(found, [(0, "begin"), (1520, "put"), (1600, "begin"), (3120, "put"), (3200, "begin"),
                                 (4720, "put"), (4720, "stop"), (4800, "begin"), (6320, "put")])
        found = run_flow((10, 8, 2, 0, 2), 3, 3, [30, 30, 31])[3:]
        self.assertEqual(found, [(18, "put"), (18, "stop"), (30, "take"), (30, "take"), (30, "go"), (31, "empty"),
                                 (32, "begin"), (40, "put")])

    def test_lost_in(self):
        self.assertEqual([lost_in((10, 8, 2, 0, 2), size, 3, []) for size in [1, 2]], [2, 0])

    def test_bounds(self):
        flow = (1600, 1520, 100, 1, 3)
        self.assertEqual([most_waiting(flow), least_low(flow, 1600), least_low(flow, 1700)], [4, 1, 0])
        self.assertEqual(worst_delay((8, "none", 1), (10, 8, 16), 160), 1529)


class RunTest(unittest.TestCase):
    def check_run(self, flow, size, many, takes):
        expected = plain_run(flow, size, many, takes)
        self.assertEqual(run_flow(flow, size, many, takes), expected, (flow, size, many, takes))
        self.assertEqual(lost_in(flow, size, many, takes), [word for _, word in expected].count("lost"))

    def test_small_flows_tick_by_tick(self):
        rng = random.Random(50)
        words = set()
        for _ in range(2500):
            flow, size, many = some_flow(rng, 6), rng.randint(1, 8), rng.randint(0, 14)
            takes = some_takes(rng, rng.choice([5, 40, 120]))
            self.check_run(flow, size, many, takes)
            words |= {word for _, word in run_flow(flow, size, many, takes)}
        self.assertEqual(words, {"begin", "put", "lost", "stop", "take", "empty", "go"})

    def test_all_smallest_flows(self):
        for flow in itertools.product((1, 2, 3), (1, 2, 5), (1, 2, 4), (0, 1), (1, 2, 3)):
            if flow[3] < flow[4]:
                for size in (1, 2, 4):
                    for takes in ([], [0], [3, 3, 4], [6, 7, 8, 9, 9], [2, 5, 8, 11, 14, 17]):
                        self.check_run(flow, size, 6, takes)

    def test_a_sign_that_is_heard_at_the_tick_at_which_a_number_would_begin(self):
        # The number put at 8 fills the buffer; the sign to stop is heard at 10, 9 or 11.
        for lag, begins in [(1, 1), (2, 1), (3, 2), (12, 2), (13, 3)]:
            found = run_flow((10, 8, lag, 0, 1), 9, 5, [])
            self.assertEqual([word for _, word in found].count("begin"), begins)
        # The sign to go is heard at the tick at which a number would begin without the signs.
        found = run_flow((10, 8, 2, 0, 1), 9, 2, [8])
        self.assertEqual(found, [(0, "begin"), (8, "put"), (8, "stop"), (8, "take"), (8, "go"), (10, "begin"),
                                 (18, "put"), (18, "stop")])
        self.assertEqual(run_flow((10, 8, 2, 0, 1), 9, 2, [9])[5:], [(11, "begin"), (19, "put"), (19, "stop")])

    def test_several_signs_that_are_heard_at_one_tick(self):
        # At 18 the number fills the buffer, and two takes empty it: both signs are heard at 22.
        found = run_flow((10, 8, 4, 0, 2), 9, 4, [18, 18])
        self.assertEqual(found[3:], [(18, "put"), (18, "stop"), (18, "take"), (18, "take"), (18, "go"), (20, "begin"),
                                     (28, "put"), (30, "begin"), (38, "put"), (38, "stop")])
        self.check_run((10, 8, 4, 0, 2), 9, 4, [18, 18])
        self.check_run((10, 8, 2, 0, 2), 9, 4, [18, 18])

    def test_delays_and_lags_longer_than_a_frame(self):
        rng = random.Random(51)
        for _ in range(200):
            flow = (rng.randint(1, 4), rng.randint(5, 40), rng.randint(5, 40), 1, rng.randint(2, 4))
            self.check_run(flow, rng.randint(1, 30), 20, some_takes(rng, 150))
        found = run_flow((2, 9, 7, 0, 1), 20, 30, [])
        # Put at 9 is the number of 0; all begin that the sign at 16 does not hold back.
        self.assertEqual([tick for tick, word in found if word == "begin"], [0, 2, 4, 6, 8, 10, 12, 14])

    def test_a_buffer_of_one_number(self):
        for flow in [(3, 5, 2, 0, 1), (3, 5, 9, 0, 1), (1, 1, 1, 0, 1), (3, 5, 2, 0, 2)]:
            for takes in ([], [5], [6, 6], list(range(5, 60, 3)), list(range(0, 60))):
                self.check_run(flow, 1, 12, takes)

    def test_takes_at_one_tick_and_of_an_empty_buffer(self):
        self.assertEqual(run_flow((5, 3, 1, 0, 2), 4, 1, [0, 3, 3, 3]),
                         [(0, "begin"), (0, "empty"), (3, "put"), (3, "take"), (3, "empty"), (3, "empty")])
        self.assertEqual(run_flow((5, 3, 1, 0, 2), 4, 0, [7] * 60), [(7, "empty")] * 60)

    def test_none_and_sixty_takes_and_numbers(self):
        self.assertEqual(run_flow((5, 3, 1, 0, 2), 4, 0, []), [])
        for many in (0, 1, 60):
            for takes in ([], [9] * 60, list(range(0, 300, 5)), list(range(400, 1000, 10))):
                for size in (1, 3, 60, 100):
                    self.check_run((5, 3, 1, 0, 2), size, many, takes)
                    self.check_run((4, 30, 9, 5, 58), size, many, takes)

    def test_long_ticks(self):
        by = 10 ** 28
        rng = random.Random(52)
        for _ in range(100):
            flow, size, many = some_flow(rng, 6), rng.randint(1, 8), rng.randint(0, 60)
            takes = some_takes(rng, 60)
            wide = tuple(ticks * by for ticks in flow[:3]) + flow[3:]
            expected = [(tick * by, word) for tick, word in plain_run(flow, size, many, takes)]
            self.assertEqual(run_flow(wide, size, many, [tick * by for tick in takes]), expected)

    def test_a_take_far_behind_all_numbers(self):
        far = 10 ** 30 - 1
        found = run_flow((10, 8, 2, 0, 1), 1, 2, [far, far])
        self.assertEqual(found[3:], [(far, "take"), (far, "go"), (far, "empty"), (far + 2, "begin"),
                                     (far + 10, "put"), (far + 10, "stop")])

    def test_the_order_of_all_that_happens(self):
        rng = random.Random(53)
        for _ in range(100):
            found = run_flow(some_flow(rng, 5), 3, 20, some_takes(rng, 80))
            self.assertEqual([tick for tick, _ in found], sorted(tick for tick, _ in found))
            for (tick, word), (later, sign) in zip(found, found[1:]):
                if sign in ("stop", "go"):
                    self.assertEqual(tick, later)
                    self.assertIn(word, ("put", "lost") if sign == "stop" else ("take", "empty"))


class MostWaitingTest(unittest.TestCase):
    def test_small_flows_with_all_takes(self):
        for flow in [(1, 1, 1, 0, 1), (2, 3, 4, 0, 1), (3, 2, 1, 0, 2), (2, 5, 5, 1, 2), (3, 8, 2, 0, 1)]:
            found = most_held(run_flow(flow, WITHOUT_BOUND, 60, []))
            self.assertEqual(most_waiting(flow), found)
            for many in range(1, 5):
                for takes in itertools.combinations_with_replacement(range(12), many):
                    self.assertLessEqual(most_held(run_flow(flow, WITHOUT_BOUND, 15, list(takes))), found)

    def test_a_buffer_of_this_size_never_loses_a_number(self):
        rng = random.Random(54)
        for _ in range(400):
            flow = some_flow(rng, 8)
            size = most_waiting(flow)
            for last in (20, 100, 400):
                takes = some_takes(rng, last)
                self.assertEqual(lost_in(flow, size, 60, takes), 0)
                self.assertLessEqual(most_held(run_flow(flow, WITHOUT_BOUND, 60, takes)), size)

    def test_one_place_less_can_lose_a_number(self):
        rng = random.Random(55)
        for _ in range(300):
            flow = some_flow(rng, 6)
            size = most_waiting(flow)
            self.assertEqual(most_held(run_flow(flow, WITHOUT_BOUND, 60, [])), size)
            if size > 1:
                self.assertGreater(lost_in(flow, size - 1, 60, []), 0)

    def test_edges_of_the_delay(self):
        # Just as many frames fit into delay and lag, one tick less, and one tick more.
        self.assertEqual([most_waiting((10, 25, lag, 0, 3)) for lag in (4, 5, 6, 15, 16)], [5, 5, 6, 6, 7])
        by = 10 ** 29
        self.assertEqual([most_waiting((by, 2 * by, by + more, 0, by)) - by for more in (-1, 0, 1)], [2, 2, 3])


class LeastLowTest(unittest.TestCase):
    def emptied(self, flow, every):
        """Whether takes behind the sign to go find the buffer empty, if all has stopped ahead of it."""
        low, high = flow[3:]
        held = most_waiting(flow)
        begin = 1000
        takes = [begin] * (held - low) + [begin + every * at for at in range(1, 20)]
        events = run_flow(flow, WITHOUT_BOUND, 60, takes)
        self.assertIn((begin, "go"), events)
        self.assertGreater(high, low)
        return "empty" in [word for _, word in events]

    def test_at_and_beside_the_bound(self):
        rng = random.Random(56)
        seen = set()
        for _ in range(300):
            frame, delay, lag = rng.randint(3, 9), rng.randint(1, 20), rng.randint(1, 20)
            every = frame + rng.choice([0, 0, 1, 5])
            low = least_low((frame, delay, lag, 0, 1), every)
            self.assertEqual(low, (lag + delay - 1) // every)
            seen.add(low)
            self.assertFalse(self.emptied((frame, delay, lag, low, low + 1), every))
            self.assertFalse(self.emptied((frame, delay, lag, low + 1, low + 3), every))
            if low > 0:
                self.assertTrue(self.emptied((frame, delay, lag, low - 1, low), every))
        self.assertTrue({0, 1, 2, 5} <= seen)

    def test_low_and_high_play_no_part(self):
        for low, high in [(0, 1), (5, 9), (10 ** 29, 10 ** 30 - 1)]:
            self.assertEqual(least_low((10, 8, 13, low, high), 10), 2)
        self.assertEqual([least_low((10, 8, lag, 0, 1), 10) for lag in (1, 2, 3, 12, 13)], [0, 0, 1, 1, 2])

    def test_every_is_at_least_the_frame(self):
        self.assertEqual(least_low((10 ** 29, 1, 10 ** 29, 0, 1), 10 ** 29), 1)
        for every in (10 ** 29 - 1, 1, 0, -10 ** 29):
            with self.assertRaises(InvalidNumber):
                least_low((10 ** 29, 1, 10 ** 29, 0, 1), every)


class WorstDelayTest(unittest.TestCase):
    def test_by_each_offset(self):
        rng = random.Random(57)
        tried = 0
        for shape in ALL_SHAPES:
            receiver = (rng.randint(1, 12), rng.randint(6, 9), rng.randint(15, 18))
            safe = safe_lengths(shape, receiver)
            if safe is None:
                continue
            tried += 1
            for length in safe:
                last = [looks_of(shape, receiver, offset)[-1] for offset in range(receiver[0])]
                self.assertEqual(worst_delay(shape, receiver, length), max(last))
                for offset in range(receiver[0]):
                    found = readings(shape, receiver, offset, sent_text(shape, length, [0], 0))
                    self.assertEqual(found, [(offset, "good", 0)])
            for length in (safe[0] - 1, safe[1] + 1):
                with self.assertRaises(InvalidLength):
                    worst_delay(shape, receiver, length)
        self.assertGreater(tried, 40)

    def test_no_length_is_safe(self):
        for length in (1, 100, 10 ** 29):
            with self.assertRaises(InvalidLength):
                worst_delay((8, "none", 1), (10, 100, 1), length)

    def test_long_grains(self):
        by = 10 ** 26
        self.assertEqual(worst_delay((8, "none", 1), (10 * by, 8, 16), 160 * by), 1530 * by - 1)


if __name__ == "__main__":
    unittest.main()
