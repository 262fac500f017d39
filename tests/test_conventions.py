"""Point 2: arguments stay as they are and are not kept, and results are new each time."""

import copy
import inspect
import unittest

from startbits import bits, console, drift, errors, flow, lengths, live, lone, midst, mixed, readings, records, shapes
from startbits import signals, speeds, telling, texts
from tests.calls import CALLS, JUDGMENTS

GOOD_CALLS = [(function, valid) for function, valid, _ in CALLS] + JUDGMENTS
GOOD_CALLS += [
    (shapes.levels_of, {"shape": (8, "none", 1), "numbers": []}),
    (signals.sent, {"shape": (8, "none", 1), "length": 160, "sending": []}),
    (signals.sent_text, {"shape": (8, "none", 1), "length": 160, "numbers": [], "begin": 0}),
    (signals.sent_unevenly, {"shape": (8, "none", 1), "numbers": [], "begin": 0, "lasts": []}),
    (signals.moved, {"signal": [], "by": 0}),
    (signals.moved, {"signal": [4, 9], "by": 0}),
    (signals.multiplied, {"signal": [], "by": 1}),
    (signals.multiplied, {"signal": [4, 9], "by": 1}),
    (signals.together, {"one": [], "other": []}),
    (signals.together, {"one": [4, 9], "other": []}),
    (signals.together, {"one": [], "other": [4, 9]}),
    (signals.together, {"one": [4, 9], "other": [4, 9]}),
    (readings.readings, {"shape": (1, "none", 1), "receiver": (1, 0, 1), "phase": 0, "signal": []}),
    (lone.silent_numbers, {"shape": (1, "none", 1), "receiver": (100, 0, 1), "length": 40, "phase": 50}),
    (lone.lengths_as, {"shape": (1, "none", 1), "receiver": (100, 0, 1), "phase": 50, "number": 0, "numbers": [],
                       "most": 10 ** 20}),
    (bits.parsed, {"shape": (1, "none", 1), "levels": [], "begin": 0}),
    (bits.places_along, {"shape": (1, "none", 1), "place": 2, "numbers": []}),
    (midst.step_text, {"shape": (2, "none", 1), "numbers": [2, 1]}),
    (midst.lasting_places, {"shape": (8, "none", 1), "numbers": [85]}),
    (midst.silence_paper, {"shape": (2, "even", 1), "numbers": [3], "many": 60}),
    (mixed.read_by, {"shape": (7, "even", 1), "other": (8, "none", 1), "numbers": []}),
    (mixed.wrong_text, {"shape": (5, "none", 1), "other": (5, "none", 2)}),
    (mixed.silent_text, {"shape": (2, "none", 1), "other": (2, "none", 2)}),
    (records.nth_text, {"shape": (3, "none", 1), "low": 2, "high": 4, "signal": [], "index": 0}),
    (records.text_index, {"shape": (3, "none", 1), "low": 2, "high": 4, "signal": [], "numbers": []}),
    (records.sure_numbers, {"shape": (3, "none", 1), "low": 2, "high": 4, "signal": []}),
    (records.sure_numbers, {"shape": (3, "none", 1), "low": 2, "high": 2, "signal": [0, 2]}),
    (telling.lengths_of, {"shape": (2, "none", 1), "signal": []}),
    (telling.lengths_of, {"shape": (2, "none", 1), "signal": [0, 5, 8]}),
    (telling.likenesses, {"shape": (8, "none", 1), "number": 85}),
    (telling.telling_numbers, {"shape": (2, "none", 1), "lengths": [10, 13]}),
    (flow.run_flow, {"flow": (10, 8, 2, 0, 2), "size": 1, "many": 0, "takes": []}),
    (flow.run_flow, {"flow": (10, 8, 2, 0, 2), "size": 1, "many": 0, "takes": [0]}),
    (texts.format_shape, {"shape": (7, "even", 2)}),
    (texts.format_signal, {"signal": [-5, 10 ** 20]}),
    (texts.format_sending, {"sending": [(0, 65), (1600, 3)]}),
    (texts.format_readings, {"entries": [(0, "good", 65), (1604, "break", 0)]}),
    (texts.parse_signal, {"text": ""}),
    (texts.parse_sending, {"shape": (8, "none", 1), "length": 160, "text": ""}),
]

PARAMETERS = {
    shapes: {"is_shape": "value", "size_of": "shape", "is_number": "shape value", "parity_of": "shape number",
             "frame_of": "shape number", "number_of": "shape value", "levels_of": "shape numbers"},
    signals: {"is_signal": "value", "level_at": "signal tick", "runs_between": "signal begin end",
              "sent": "shape length sending", "sent_text": "shape length numbers begin",
              "sent_unevenly": "shape numbers begin lasts", "moved": "signal by", "multiplied": "signal by",
              "together": "one other"},
    readings: {"is_receiver": "value", "first_look": "receiver phase tick", "looks_of": "shape receiver tick",
               "readings": "shape receiver phase signal", "is_read_right": "shape receiver phase signal numbers",
               "state_behind": "shape receiver phase signal tick"},
    speeds: {"safe_lengths": "shape receiver", "is_safe": "shape receiver length",
             "margin": "shape receiver length", "safe_grains": "shape wait step length",
             "safe_waits": "shape grain step length", "safe_steps": "shape grain wait length",
             "best_wait": "shape grain step length", "is_safe_span": "shape receiver low high",
             "misread_paper": "shape receiver length", "shows_misread": "shape receiver length value"},
    drift: {"offset_of": "shape receiver length phase index", "good_offsets": "shape receiver length",
            "first_risk": "shape receiver length phase", "count_risks": "shape receiver length phase many",
            "lasting_phases": "shape receiver length", "risk_numbers": "shape receiver length phase"},
    lengths: {"lengths_for": "shape receiver phase numbers most", "next_change": "shape receiver phase numbers length"},
    lone: {"read_alone": "shape receiver length phase number", "silent_numbers": "shape receiver length phase",
           "lengths_as": "shape receiver phase number numbers most"},
    bits: {"parsed": "shape levels begin", "places_along": "shape place numbers",
           "place_behind": "shape place numbers"},
    midst: {"step_text": "shape numbers", "lasting_places": "shape numbers", "greatest_silence": "shape numbers",
            "silence_paper": "shape numbers many", "shows_silence": "shape numbers many value"},
    mixed: {"read_by": "shape other numbers", "is_read_by": "shape other", "wrong_text": "shape other",
            "silent_text": "shape other"},
    records: {"is_possible": "shape low high signal", "count_texts": "shape low high signal",
              "nth_text": "shape low high signal index", "text_index": "shape low high signal numbers",
              "fewest_numbers": "shape low high signal", "most_numbers": "shape low high signal",
              "sure_numbers": "shape low high signal", "least_high": "shape low signal"},
    telling: {"lengths_of": "shape signal", "likenesses": "shape number", "telling_numbers": "shape lengths"},
    flow: {"run_flow": "flow size many takes", "lost_in": "flow size many takes", "most_waiting": "flow",
           "least_low": "flow every", "worst_delay": "shape receiver length"},
    texts: {"format_shape": "shape", "format_signal": "signal", "format_sending": "sending",
            "format_readings": "entries", "parse_shape": "text", "parse_signal": "text",
            "parse_sending": "shape length text"},
}

METHODS = {
    live.Line: {"__init__": "self shape receiver phase", "set_level": "self level tick", "wait": "self tick",
                "undo": "self", "would_be": "self", "fork": "self", "__eq__": "self other", "__len__": "self"},
    console.Console: {"__init__": "self", "execute": "self command"},
}
PROPERTIES = ["tick", "level", "signal", "readings", "state", "next_look", "log"]


def lists_in(value):
    """All lists in a value, itself included."""
    if not isinstance(value, (list, tuple)):
        return []
    inner = [part for item in value for part in lists_in(item)]
    return inner + [value] if isinstance(value, list) else inner


class ConventionTest(unittest.TestCase):
    def test_arguments_by_position_and_by_name(self):
        for function, valid in GOOD_CALLS:
            self.assertEqual(function(*valid.values()), function(**valid), function.__name__)
            turned = dict(reversed(list(valid.items())))
            self.assertEqual(function(**turned), function(**valid), function.__name__)

    def test_arguments_stay_as_they_are(self):
        for function, valid in GOOD_CALLS:
            told = copy.deepcopy(valid)
            function(**told)
            self.assertEqual(told, valid, function.__name__)

    def test_arguments_stay_as_they_are_behind_an_error(self):
        one, other = list(range(800)), [900]
        with self.assertRaises(errors.TooLarge):
            signals.together(one, other)
        self.assertEqual((one, other), (list(range(800)), [900]))

    def test_results_are_new_lists(self):
        for function, valid in GOOD_CALLS:
            arguments = copy.deepcopy(valid)
            lists = lists_in(function(**arguments)) + lists_in(function(**arguments))
            lists += lists_in(list(arguments.values()))
            self.assertEqual(len({id(part) for part in lists}), len(lists), function.__name__)

    def test_changed_results_play_no_part_later(self):
        for function, valid in GOOD_CALLS:
            first = function(**copy.deepcopy(valid))
            expected = copy.deepcopy(first)
            for part in lists_in(first):
                part.append("more")
                part.reverse()
            self.assertEqual(function(**copy.deepcopy(valid)), expected, function.__name__)

    def test_changed_arguments_play_no_part_later(self):
        for function, valid in GOOD_CALLS:
            arguments = copy.deepcopy(valid)
            result = function(**arguments)
            expected = copy.deepcopy(result)
            for argument in arguments.values():
                if isinstance(argument, list):
                    argument.clear()
            self.assertEqual(result, expected, function.__name__)
            self.assertEqual(function(**copy.deepcopy(valid)), expected, function.__name__)

    def test_results_may_be_passed_on(self):
        signal = signals.sent_text((8, "none", 1), 160, [65, 66], -5)
        wider = signals.multiplied(signals.moved(signal, 10 ** 20), 3)
        self.assertEqual(signals.together(wider, wider), wider)
        self.assertEqual(signals.level_at(wider, wider[0]), 0)
        self.assertEqual(shapes.number_of((8, "none", 1), shapes.frame_of((8, "none", 1), 65)), 65)


class InterfaceTest(unittest.TestCase):
    def test_functions_stand_in_their_files_with_their_arguments(self):
        for module, functions in PARAMETERS.items():
            for name, parameters in functions.items():
                function = getattr(module, name)
                self.assertTrue(inspect.isfunction(function))
                self.assertEqual(function.__module__, module.__name__)
                self.assertEqual(list(inspect.signature(function).parameters), parameters.split())

    def test_classes_have_their_methods_themselves(self):
        for kind, methods in METHODS.items():
            for name, parameters in methods.items():
                method = vars(kind)[name]
                self.assertTrue(inspect.isfunction(method))
                self.assertEqual(list(inspect.signature(method).parameters), parameters.split())
        self.assertEqual((live.Line.__module__, console.Console.__module__), ("startbits.live", "startbits.console"))
        self.assertTrue(all(isinstance(vars(live.Line)[name], property) for name in PROPERTIES))


if __name__ == "__main__":
    unittest.main()
