"""Points 2 and 3: the right error with the right field, and the order in which errors are checked."""

import unittest

from tests.calls import CALLS, SHAPE
from startbits import errors, shapes, signals

FEW = 12


class WrongArgumentTest(unittest.TestCase):
    def check_error(self, function, arguments, error, fields):
        try:
            function(**arguments)
        except Exception as caught:
            self.assertIs(type(caught), error, function.__name__)
            self.assertEqual(vars(caught), fields, function.__name__)
        else:
            self.fail(f"{function.__name__} raises no {error.__name__}")

    def test_one_wrong_argument(self):
        for function, valid, faults in CALLS:
            for name, wrong in faults.items():
                for value, error, fields in wrong:
                    self.check_error(function, {**valid, name: value}, error, fields)

    def test_two_wrong_arguments(self):
        for function, valid, faults in CALLS:
            names = [name for name in valid if name in faults]
            for at, first in enumerate(names):
                for second in names[at + 1:]:
                    self.check_pairs(function, valid, (first, faults[first]), (second, faults[second]))

    def check_pairs(self, function, valid, one, other):
        (first, first_faults), (second, second_faults) = one, other
        # A few of each, spread over the kinds of faults: all pairs would be too many.
        for value, error, fields in first_faults[::1 + len(first_faults) // FEW]:
            for beside, _, _ in second_faults[::1 + len(second_faults) // FEW]:
                self.check_error(function, {**valid, first: value, second: beside}, error, fields)

    def test_all_arguments_wrong(self):
        for function, valid, faults in CALLS:
            value, error, fields = list(faults.values())[0][0]
            self.check_error(function, {**{name: None for name in valid}, list(valid)[0]: value}, error, fields)


class NamedCaseTest(unittest.TestCase):
    """The edges that the issue and the document name, each written out."""

    def assert_index(self, error, index, function, *arguments):
        with self.assertRaises(error) as caught:
            function(*arguments)
        self.assertEqual(caught.exception.index, index)

    def test_sixty_one_numbers(self):
        shape = (8, "none", 1)
        self.assert_index(errors.InvalidText, None, shapes.levels_of, shape, [0] * 61)
        self.assert_index(errors.InvalidText, None, signals.sent_text, shape, 1, [0] * 61, 0)
        self.assert_index(errors.InvalidText, None, signals.sent_unevenly, shape, [0] * 61, 0, [1] * 610)
        self.assert_index(errors.InvalidSending, None, signals.sent, shape, 1, [(10 * at, 0) for at in range(61)])

    def test_eight_hundred_and_one_changes(self):
        for function, rest in [(signals.level_at, [0]), (signals.runs_between, [0, 1]), (signals.moved, [1]),
                               (signals.multiplied, [1]), (signals.together, [[]])]:
            function(list(range(800)), *rest)
            self.assert_index(errors.InvalidSignal, None, function, list(range(801)), *rest)

    def test_tuples_and_lists(self):
        self.assert_index(errors.InvalidShape, None, shapes.size_of, [8, "none", 1])
        self.assert_index(errors.InvalidText, None, shapes.levels_of, SHAPE, (1, 2))
        self.assert_index(errors.InvalidSignal, None, signals.level_at, (0, 3), 1)
        self.assert_index(errors.InvalidSending, None, signals.sent, SHAPE, 1, ((0, 1),))
        self.assert_index(errors.InvalidSending, 1, signals.sent, SHAPE, 1, [(0, 1), [10, 1]])
        self.assert_index(errors.InvalidLengths, None, signals.sent_unevenly, SHAPE, [1], 0, (1,) * 6)

    def test_bools_are_no_integers(self):
        self.assert_index(errors.InvalidShape, 0, shapes.size_of, (True, "none", 1))
        self.assert_index(errors.InvalidShape, 2, shapes.size_of, (1, "none", True))
        self.assert_index(errors.InvalidText, 1, shapes.levels_of, SHAPE, [1, True])
        self.assert_index(errors.InvalidSignal, 0, signals.level_at, [False], 0)
        self.assert_index(errors.InvalidSignal, 1, signals.moved, [0, True], 0)
        self.assert_index(errors.InvalidSending, 0, signals.sent, SHAPE, 1, [(False, 1)])
        self.assert_index(errors.InvalidSending, 0, signals.sent, SHAPE, 1, [(0, True)])
        self.assert_index(errors.InvalidLengths, 5, signals.sent_unevenly, SHAPE, [1], 0, [1] * 5 + [True])
        with self.assertRaises(errors.InvalidNumber):
            shapes.frame_of(SHAPE, True)
        with self.assertRaises(errors.InvalidTick):
            signals.level_at([], True)
        with self.assertRaises(errors.InvalidLength):
            signals.sent(SHAPE, True, [])
        with self.assertRaises(errors.InvalidNumber):
            signals.multiplied([], True)

    def test_frames_too_close(self):
        signals.sent((1, "none", 1), 10, [(0, 1), (30, 1)])
        self.assert_index(errors.InvalidSending, 1, signals.sent, (1, "none", 1), 10, [(0, 1), (29, 1)])
        self.assert_index(errors.InvalidSending, 1, signals.sent, (1, "even", 1), 10, [(0, 1), (39, 1)])
        self.assert_index(errors.InvalidSending, 1, signals.sent, (1, "even", 2), 10, [(0, 1), (49, 1)])

    def test_the_end_is_greater_than_the_begin(self):
        self.assertEqual(signals.runs_between([], 3, 4), [(1, 1)])
        for end in (3, 2, -10 ** 29):
            with self.assertRaises(errors.InvalidTick):
                signals.runs_between([], 3, end)

    def test_too_many_lengths_behind_a_wrong_one(self):
        self.assert_index(errors.InvalidLengths, None, signals.sent_unevenly, SHAPE, [1], 0, [0] * 7)
        self.assert_index(errors.InvalidLengths, None, signals.sent_unevenly, SHAPE, [], 0, [1])

    def test_both_signals_come_ahead_of_the_size_of_the_result(self):
        full = list(range(800))
        self.assert_index(errors.InvalidSignal, 1, signals.together, full, [900, 900])
        self.assert_index(errors.InvalidSignal, 1, signals.together, [900, 900], full)
        self.assert_index(errors.InvalidSignal, None, signals.together, list(range(801)), [3, 3])


if __name__ == "__main__":
    unittest.main()
