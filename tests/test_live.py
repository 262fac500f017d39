"""Points 42, 43 and 44: a live line."""

import copy
import random
import unittest

from startbits import errors
from startbits.live import Line
from startbits.readings import readings, state_behind
from tests.reference import ALL_SHAPES, PlainReceiver, changes_in, plain_frame, plain_level, plain_readings
from tests.values import HUGE, NO_INTEGERS, NO_LISTS, NO_TUPLES, SaysYes, phase_faults, receiver_faults, shape_faults

SHAPE, RECEIVER = (1, "none", 1), (10, 8, 16)
RECEIVERS = [(1, 0, 1), (1, 1, 2), (2, 0, 1), (3, 2, 2), (4, 0, 2), (5, 1, 1)]


class PlainLine:
    """What a line must tell, from all calls and look by look."""

    def __init__(self, shape, receiver, phase):
        self.shape, self.receiver, self.phase = shape, receiver, phase
        self.calls = []

    def told(self):
        """A dict of all that the properties tell, and the readings that there would be."""
        ticks = [call[-1] for call in self.calls]
        signal = self.signal(ticks)
        grain, wait, step = self.receiver
        line = PlainReceiver(self.shape, self.receiver)
        present = ticks[-1] if ticks else None
        look = self.phase
        while ticks and look < present:
            line.look(look, plain_level(signal, look))
            look += grain
        if line.state == "frame":
            look = line.start + grain * (wait + step * len(line.seen))
        return {"tick": present, "level": self.level(), "signal": signal, "readings": line.readings,
                "state": (line.state, look if line.state == "frame" else None), "next_look": look, "log": self.calls,
                "would_be": plain_readings(self.shape, self.receiver, self.phase, signal)}

    def level(self):
        return ([1] + [call[1] for call in self.calls if call[0] == "level"])[-1]

    def signal(self, ticks):
        if not ticks:
            return []
        levels, level, at = {}, 1, 0
        for tick in range(ticks[0], ticks[-1] + 1):
            while at < len(self.calls) and self.calls[at][-1] <= tick:
                level = self.calls[at][1] if self.calls[at][0] == "level" else level
                at += 1
            levels[tick] = level
        return changes_in(levels, ticks[0], ticks[-1] + 1)


def told_by(line):
    names = ["tick", "level", "signal", "readings", "state", "next_look", "log"]
    return {**{name: getattr(line, name) for name in names}, "would_be": line.would_be()}


def call(line, told):
    """Do a call that is told as in the log."""
    return line.set_level(*told[1:]) if told[0] == "level" else line.wait(*told[1:])


def some_calls(rng, many, begin, most):
    """Calls, some at one tick and some that change nothing."""
    calls, tick = [], begin
    for _ in range(many):
        tick += rng.choice([0, 0, 1, 1, 2, rng.randint(0, most)])
        calls.append(rng.choice([("level", 0, tick), ("level", 1, tick), ("wait", tick)]))
    return calls


class ExampleTest(unittest.TestCase):
    def test_a_line(self):
        line = Line((1, "none", 1), (10, 8, 16), 0)
        self.assertEqual([line.tick, line.level, line.state, line.next_look, len(line)], [None, 1, ("idle", None), 0, 0])
        self.assertEqual([line.set_level(0, 5), line.state, line.next_look], [None, ("idle", None), 10])
        self.assertEqual([line.wait(11), line.state, line.next_look], [None, ("frame", 90), 90])
        self.assertEqual([line.set_level(1, 200), line.readings, line.would_be()], [None, [], [(10, "good", 1)]])
        self.assertEqual([line.wait(410), line.readings], [None, []])
        self.assertEqual([line.wait(411), line.readings], [None, [(10, "good", 1)]])
        self.assertEqual([line.state, line.next_look], [("idle", None), 420])
        self.assertEqual([line.undo(), line.tick, line.readings, line.signal, len(line)], [None, 410, [], [5, 200], 4])
        other = line.fork()
        self.assertEqual([other == line, other.set_level(0, 410), other == line], [True, None, False])
        self.assertEqual([other.would_be(), line.would_be()], [[(10, "frame", 1)], [(10, "good", 1)]])
        self.assertEqual(line.log, [("level", 0, 5), ("wait", 11), ("level", 1, 200), ("wait", 410)])

    def test_changes_that_change_nothing(self):
        line = Line((8, "none", 1), (10, 8, 16), -7)
        found = [line.set_level(0, 3), line.set_level(1, 3), line.signal, line.set_level(1, 8), line.signal]
        self.assertEqual(found + [line.next_look], [None, None, [], None, [], 13])

    def test_a_tick_ahead_of_the_present_one(self):
        line = Line((8, "none", 1), (10, 8, 16), 0)
        self.assertIsNone(line.wait(3))
        with self.assertRaises(errors.InvalidTick):
            line.set_level(0, 2)


class CallTest(unittest.TestCase):
    def check_calls(self, line, plain, calls):
        """Do some calls, compare behind each one, and take all of them back again."""
        behind = [told_by(line)]
        self.assertEqual(behind[0], plain.told())
        for told in calls:
            self.assertIsNone(call(line, told))
            plain.calls.append(told)
            behind.append(told_by(line))
            self.assertEqual(behind[-1], plain.told(), (line.log, plain.shape, plain.receiver, plain.phase))
            self.assertEqual(len(line), len(plain.calls))
        for at in reversed(range(len(calls))):
            self.assertIsNone(line.undo())
            self.assertEqual(told_by(line), behind[at])
            self.assertEqual(len(line), at)
        with self.assertRaises(errors.NothingToUndo):
            line.undo()
        self.assertEqual(told_by(line), behind[0])

    def test_small_lines_look_by_look(self):
        rng = random.Random(60)
        for shape in [(1, "none", 1), (1, "even", 2), (2, "none", 1), (3, "odd", 1), (8, "none", 1)]:
            for receiver in RECEIVERS:
                for most in (3, 20, 60):
                    phase = rng.choice([0, -5, 4, 30])
                    begin = rng.choice([0, -20, 10])
                    plain = PlainLine(shape, receiver, phase)
                    self.check_calls(Line(shape, receiver, phase), plain, some_calls(rng, 14, begin, most))

    def test_all_shapes(self):
        rng = random.Random(61)
        for shape in ALL_SHAPES:
            receiver, phase = rng.choice(RECEIVERS), rng.randint(-9, 9)
            self.check_calls(Line(shape, receiver, phase), PlainLine(shape, receiver, phase),
                             some_calls(rng, 10, -9, 30))

    def test_frames_level_by_level(self):
        rng = random.Random(62)
        for shape in [(1, "none", 1), (2, "even", 1), (8, "none", 1)]:
            for receiver, length in [((1, 0, 1), 1), ((2, 1, 2), 4), ((3, 1, 3), 9)]:
                calls, tick = [], 5
                for _ in range(3):
                    for level in plain_frame(shape, rng.randrange(2 ** shape[0])):
                        calls.append(("level", level, tick))
                        tick += length
                self.check_calls(Line(shape, receiver, 0), PlainLine(shape, receiver, 0), calls + [("wait", tick + 9)])

    def test_the_last_of_several_calls_at_one_tick_counts(self):
        for levels in [(0,), (0, 1), (1, 0), (0, 1, 0), (0, 0, 1, 1), (1, 0, 1, 0)]:
            line = Line(SHAPE, RECEIVER, 0)
            line.set_level(0, -50)
            line.set_level(1, -40)
            for level in levels:
                line.set_level(level, 20)
            line.wait(20)
            self.assertEqual(line.signal, [-50, -40, 20] if levels[-1] == 0 else [-50, -40])
            self.assertEqual((line.level, line.tick, len(line)), (levels[-1], 20, 3 + len(levels)))

    def test_a_look_at_the_present_tick_is_not_made_yet(self):
        line = Line((1, "none", 1), (1, 0, 1), 0)
        line.set_level(0, 0)
        self.assertEqual([line.state, line.next_look, line.readings], [("idle", None), 0, []])
        line.wait(1)
        self.assertEqual([line.state, line.next_look], [("frame", 1), 1])
        line.set_level(1, 1)
        line.wait(2)
        self.assertEqual([line.state, line.readings, line.would_be()], [("frame", 2), [], [(0, "good", 1)]])
        line.set_level(0, 2)
        self.assertEqual([line.readings, line.would_be()], [[], [(0, "frame", 1)]])
        line.wait(3)
        self.assertEqual([line.state, line.next_look, line.readings], [("waiting", None), 3, [(0, "frame", 1)]])
        line.set_level(1, 3)
        self.assertEqual(line.state, ("waiting", None))
        line.wait(4)
        self.assertEqual([line.state, line.next_look], [("idle", None), 4])

    def test_a_frame_that_is_dropped(self):
        line = Line((1, "none", 1), (1, 2, 4), 0)
        line.set_level(0, 0)
        line.set_level(1, 1)
        self.assertEqual([line.state, line.next_look], [("frame", 2), 2])
        line.wait(3)
        self.assertEqual([line.state, line.next_look, line.readings, line.would_be()], [("idle", None), 3, [], []])

    def test_the_next_look_without_a_call_and_ahead_of_the_phase(self):
        for phase in (-7, 0, 10 ** 29):
            line = Line(SHAPE, RECEIVER, phase)
            self.assertEqual([line.next_look, line.tick, line.level, line.log], [phase, None, 1, []])
            self.assertEqual([line.signal, line.readings, line.would_be(), len(line)], [[], [], [], 0])
            line.set_level(0, phase - 25)
            self.assertEqual([line.next_look, line.state], [phase, ("idle", None)])
            line.wait(phase)
            self.assertEqual([line.next_look, line.state], [phase, ("idle", None)])
            line.wait(phase + 1)
            self.assertEqual(line.state, ("frame", phase + 80))

    def test_calls_far_from_one_another(self):
        by = 10 ** 28
        line = Line((8, "none", 1), (10 * by, 8, 16), 0)
        levels = plain_frame((8, "none", 1), 65)
        for at, level in enumerate(levels):
            line.set_level(level, 160 * by * at)
        self.assertEqual([line.state, line.next_look], [("frame", 1520 * by), 1520 * by])
        line.wait(1520 * by)
        self.assertEqual(line.readings, [])
        line.wait(1520 * by + 1)
        self.assertEqual([line.readings, line.next_look], [[(0, "good", 65)], 1530 * by])
        small = Line((8, "none", 1), (10, 8, 16), 3)
        small.set_level(0, -10 ** 30 + 1)
        small.set_level(1, 10 ** 30 - 1)
        self.assertEqual([small.readings, small.state], [[(3, "break", 0)], ("waiting", None)])
        self.assertEqual(small.next_look, 10 ** 30 + 3)
        small.wait(10 ** 30 + 4)
        self.assertEqual([small.state, small.next_look], [("idle", None), 10 ** 30 + 13])

    def test_two_hundred_calls(self):
        rng = random.Random(63)
        shape, receiver = (3, "even", 1), (2, 1, 2)
        calls = some_calls(rng, 200, -30, 9)
        line, plain = Line(shape, receiver, 1), PlainLine(shape, receiver, 1)
        for at, told in enumerate(calls):
            call(line, told)
            plain.calls.append(told)
            if at % 20 == 19:
                self.assertEqual(told_by(line), plain.told())
        self.assertEqual(len(line), 200)
        for _ in range(100):
            line.undo()
        plain.calls = calls[:100]
        self.assertEqual(told_by(line), plain.told())


class AgreementTest(unittest.TestCase):
    def test_what_is_told_is_what_the_signal_tells(self):
        rng = random.Random(64)
        for shape in [(1, "none", 1), (4, "odd", 2), (9, "none", 1)]:
            for receiver in [(1, 0, 1), (7, 0, 3), (10, 8, 16), (10 ** 27, 8, 16)]:
                phase, by = rng.randint(-9, 9), receiver[0]
                line = Line(shape, receiver, phase)
                for told in some_calls(rng, 40, -3, 50):
                    call(line, told[:-1] + (told[-1] * by,))
                    every = readings(shape, receiver, phase, line.signal)
                    self.assertEqual(line.would_be(), every)
                    self.assertEqual(line.readings, every[:len(line.readings)])
                    state = state_behind(shape, receiver, phase, line.signal, line.tick - 1)
                    self.assertEqual(line.state, state)
                line.wait(line.tick + 10 ** 30)
                self.assertEqual(line.readings, line.would_be())


class ForkTest(unittest.TestCase):
    def test_forks_do_not_change_one_another(self):
        rng = random.Random(65)
        for _ in range(20):
            calls = some_calls(rng, 12, 0, 30)
            line = Line((2, "none", 1), (2, 1, 2), 1)
            for told in calls:
                call(line, told)
            before = told_by(line)
            other = line.fork()
            self.assertIsInstance(other, Line)
            self.assertIsNot(other, line)
            self.assertEqual(told_by(other), before)
            other.set_level(1 - other.level, other.tick + 3)
            other.wait(other.tick + 50)
            self.assertEqual(told_by(line), before)
            there = told_by(other)
            for _ in range(5):
                line.undo()
            line.set_level(0, line.tick)
            self.assertEqual(told_by(other), there)
            for _ in range(14):
                other.undo()
            with self.assertRaises(errors.NothingToUndo):
                other.undo()
            self.assertEqual(len(line), 8)

    def test_a_fork_without_calls(self):
        line = Line(SHAPE, RECEIVER, 4)
        other = line.fork()
        other.wait(3)
        self.assertEqual((len(line), len(other), line.tick), (0, 1, None))
        with self.assertRaises(errors.NothingToUndo):
            line.undo()


class EqualityTest(unittest.TestCase):
    def line(self, shape=SHAPE, receiver=RECEIVER, phase=0, calls=()):
        line = Line(shape, receiver, phase)
        for told in calls:
            call(line, told)
        return line

    def test_equal_lines(self):
        calls = [("level", 0, 5), ("wait", 5), ("level", 1, 9)]
        self.assertIs(self.line() == self.line(), True)
        self.assertIs(self.line(calls=calls) == self.line(calls=calls), True)
        self.assertIs(self.line(calls=calls) != self.line(calls=calls), False)
        longer = self.line(calls=calls + [("wait", 20)])
        self.assertIs(longer == self.line(calls=calls), False)
        longer.undo()
        self.assertIs(longer == self.line(calls=calls), True)

    def test_other_lines(self):
        calls = [("level", 0, 5), ("level", 1, 9)]
        line = self.line(calls=calls)
        others = [self.line((2, "none", 1), calls=calls), self.line(receiver=(10, 8, 17), calls=calls),
                  self.line(phase=10, calls=calls), self.line(), self.line(calls=calls[:1]),
                  self.line(calls=[("level", 0, 5), ("level", 1, 10)]), self.line(calls=calls + [("wait", 9)]),
                  # These have the same signal, but another log.
                  self.line(calls=[("level", 0, 5), ("wait", 6), ("level", 1, 9)]),
                  self.line(calls=[("wait", 5), ("level", 0, 5), ("level", 1, 9)])]
        for other in others:
            self.assertIs(line == other, False)
            self.assertIs(other == line, False)
            self.assertIs(line != other, True)

    def test_values_of_other_kinds(self):
        line = self.line()
        for value in NO_INTEGERS + NO_LISTS + NO_TUPLES + [0, "Line", [], SaysYes(), line.log, line.signal]:
            self.assertIs(line == value, False)
            self.assertIs(line != value, True)


class NewListTest(unittest.TestCase):
    def test_lists_that_are_told_are_new(self):
        line = Line((1, "none", 1), (1, 0, 1), 0)
        for told in [("level", 0, 0), ("level", 1, 1), ("level", 0, 3), ("level", 1, 5), ("wait", 9)]:
            call(line, told)
        before = copy.deepcopy(told_by(line))
        for _ in range(2):
            for value in (line.signal, line.readings, line.log, line.would_be()):
                self.assertNotEqual(value, [])
                value.append("more")
                value.reverse()
            self.assertEqual(told_by(line), before)
        self.assertTrue(all(isinstance(row, tuple) for row in line.log + line.readings))
        self.assertIsNot(line.log, line.log)


class ErrorTest(unittest.TestCase):
    def check_error(self, line, error, fields, function, *arguments):
        """A call that raises an error changes nothing."""
        before = told_by(line)
        with self.assertRaises(error) as caught:
            function(*arguments)
        self.assertIs(type(caught.exception), error)
        self.assertEqual(vars(caught.exception), fields)
        self.assertEqual(told_by(line), before)

    def test_a_new_line(self):
        line = Line(SHAPE, RECEIVER, 0)
        for value, error, fields in shape_faults():
            self.check_error(line, error, fields, Line, value, RECEIVER, 0)
        for value, error, fields in receiver_faults():
            self.check_error(line, error, fields, Line, SHAPE, value, 0)
        for value, error, fields in phase_faults():
            self.check_error(line, error, fields, Line, SHAPE, RECEIVER, value)
        self.check_error(line, errors.InvalidShape, {"index": None}, Line, None, None, None)
        self.check_error(line, errors.InvalidReceiver, {"index": 2}, Line, SHAPE, (1, 0, 0), None)

    def test_levels_and_ticks(self):
        line = Line(SHAPE, RECEIVER, 0)
        self.check_wrong_calls(line, [])
        line.set_level(0, 40)
        self.check_wrong_calls(line, [39, 0, -HUGE])
        line.wait(10 ** 29)
        self.check_wrong_calls(line, [10 ** 29 - 1, 40, -1])
        line.wait(10 ** 29)
        self.assertEqual(len(line), 3)

    def check_wrong_calls(self, line, early):
        for tick in NO_INTEGERS + early:
            self.check_error(line, errors.InvalidTick, {}, line.wait, tick)
            self.check_error(line, errors.InvalidTick, {}, line.set_level, 0, tick)
        for level in NO_INTEGERS + [2, -1, HUGE, -HUGE]:
            self.check_error(line, errors.InvalidLevel, {}, line.set_level, level, 10 ** 29)
            # The level comes ahead of the tick.
            self.check_error(line, errors.InvalidLevel, {}, line.set_level, level, None)

    def test_nothing_to_undo(self):
        line = Line(SHAPE, RECEIVER, 0)
        self.check_error(line, errors.NothingToUndo, {}, line.undo)
        line.wait(5)
        line.undo()
        self.check_error(line, errors.NothingToUndo, {}, line.undo)
        # Behind it any tick may come again.
        line.wait(-5)
        self.assertEqual(line.tick, -5)

    def test_arguments_by_name(self):
        line = Line(phase=0, receiver=RECEIVER, shape=SHAPE)
        line.set_level(tick=3, level=0)
        line.wait(tick=4)
        self.assertEqual(line.log, [("level", 0, 3), ("wait", 4)])


if __name__ == "__main__":
    unittest.main()
