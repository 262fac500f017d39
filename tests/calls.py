"""Each function that raises errors, with a valid call and what is wrong for each argument."""

from startbits import bits, drift, errors, flow, lengths, lone, midst, mixed, readings, records, shapes, signals
from startbits import speeds, telling, texts
from tests import values

SHAPE = (3, "even", 1)
BITS = 3
FRAME_TICKS = 6 * 5
RECEIVER = (10, 8, 16)
WIDE_SHAPE = (5, "odd", 2)
BIG = values.HUGE


def integers_from(error, least):
    """What is no integer from the least one on."""
    return values.integer_faults(error, [least - 1, least - 2, -BIG])


INTEGER_ENDS = values.integer_faults(errors.InvalidTick, [4, 3, -10, -BIG])

SHAPE_FAULTS = values.shape_faults()
NUMBER_FAULTS = values.number_faults(BITS)
TEXT_FAULTS = values.text_faults(BITS)
SIGNAL_FAULTS = values.signal_faults()
TICK_FAULTS = values.integer_faults(errors.InvalidTick, [])
LENGTH_FAULTS = integers_from(errors.InvalidLength, 1)
SENDING_FAULTS = values.sending_faults(BITS, FRAME_TICKS)
LASTS_FAULTS = values.lasts_faults(12)
RECEIVER_FAULTS = values.receiver_faults()
PHASE_FAULTS = values.phase_faults()
FIRST_PHASE_FAULTS = values.integer_faults(errors.InvalidPhase, [-1, 10, 11, BIG, -BIG])
FROM_0_FAULTS = integers_from(errors.InvalidNumber, 0)
FROM_1_FAULTS = integers_from(errors.InvalidNumber, 1)
ALLOWED_FAULTS = values.allowed_faults(5)

# The first arguments of many functions.
LINE = {"shape": SHAPE, "receiver": RECEIVER, "phase": -3, "signal": [0, 3, 7]}
LINE_FAULTS = {"shape": SHAPE_FAULTS, "receiver": RECEIVER_FAULTS, "phase": PHASE_FAULTS, "signal": SIGNAL_FAULTS}
SPEED = {"shape": SHAPE, "receiver": RECEIVER, "length": 160}
SPEED_FAULTS = {"shape": SHAPE_FAULTS, "receiver": RECEIVER_FAULTS, "length": LENGTH_FAULTS}
SPEED_AT = {**SPEED, "phase": 9}
SPEED_AT_FAULTS = {**SPEED_FAULTS, "phase": FIRST_PHASE_FAULTS}
TEXT_AT = {"shape": SHAPE, "receiver": RECEIVER, "phase": 9, "numbers": [5, 0]}
TEXT_AT_FAULTS = {"shape": SHAPE_FAULTS, "receiver": RECEIVER_FAULTS, "phase": FIRST_PHASE_FAULTS,
                  "numbers": values.short_text_faults(BITS, 1, 8)}
ALLOWED = {"shape": WIDE_SHAPE, "numbers": [31, 0, 5]}
ALLOWED_AND_SHAPE_FAULTS = {"shape": SHAPE_FAULTS, "numbers": ALLOWED_FAULTS}
MANY_FAULTS = values.integer_faults(errors.InvalidNumber, [0, 61, -1, BIG, -BIG])

# (function, valid arguments in the order of the signature, faults of each argument that has any)
SHAPE_CALLS = [
    (shapes.size_of, {"shape": SHAPE}, {"shape": SHAPE_FAULTS}),
    (shapes.is_number, {"shape": SHAPE, "value": 5}, {"shape": SHAPE_FAULTS}),
    (shapes.parity_of, {"shape": SHAPE, "number": 5}, {"shape": SHAPE_FAULTS, "number": NUMBER_FAULTS}),
    (shapes.frame_of, {"shape": SHAPE, "number": 5}, {"shape": SHAPE_FAULTS, "number": NUMBER_FAULTS}),
    (shapes.number_of, {"shape": SHAPE, "value": [0, 1, 0, 1, 0, 1]}, {"shape": SHAPE_FAULTS}),
    (shapes.levels_of, {"shape": SHAPE, "numbers": [5, 0]}, {"shape": SHAPE_FAULTS, "numbers": TEXT_FAULTS}),
]

SIGNAL_CALLS = [
    (signals.level_at, {"signal": [0, 3, 7], "tick": 4}, {"signal": SIGNAL_FAULTS, "tick": TICK_FAULTS}),
    (signals.runs_between, {"signal": [0, 3, 7], "begin": 4, "end": 9},
     {"signal": SIGNAL_FAULTS, "begin": TICK_FAULTS, "end": INTEGER_ENDS}),
    (signals.sent, {"shape": SHAPE, "length": 5, "sending": [(0, 5), (30, 0), (65, 1)]},
     {"shape": SHAPE_FAULTS, "length": LENGTH_FAULTS, "sending": SENDING_FAULTS}),
    (signals.sent_text, {"shape": SHAPE, "length": 5, "numbers": [5, 0], "begin": -3},
     {"shape": SHAPE_FAULTS, "length": LENGTH_FAULTS, "numbers": TEXT_FAULTS, "begin": TICK_FAULTS}),
    (signals.sent_unevenly, {"shape": SHAPE, "numbers": [5, 0], "begin": -3, "lasts": [2, 3] * 6},
     {"shape": SHAPE_FAULTS, "numbers": TEXT_FAULTS, "begin": TICK_FAULTS, "lasts": LASTS_FAULTS}),
    (signals.moved, {"signal": [0, 3, 7], "by": -2},
     {"signal": SIGNAL_FAULTS, "by": values.integer_faults(errors.InvalidNumber, [])}),
    (signals.multiplied, {"signal": [0, 3, 7], "by": 2}, {"signal": SIGNAL_FAULTS, "by": FROM_1_FAULTS}),
    (signals.together, {"one": [0, 3, 7], "other": [2, 9]}, {"one": SIGNAL_FAULTS, "other": SIGNAL_FAULTS}),
]

READING_CALLS = [
    (readings.first_look, {"receiver": RECEIVER, "phase": -3, "tick": 40},
     {"receiver": RECEIVER_FAULTS, "phase": PHASE_FAULTS, "tick": TICK_FAULTS}),
    (readings.looks_of, {"shape": SHAPE, "receiver": RECEIVER, "tick": 40},
     {"shape": SHAPE_FAULTS, "receiver": RECEIVER_FAULTS, "tick": TICK_FAULTS}),
    (readings.readings, LINE, LINE_FAULTS),
    (readings.is_read_right, {**LINE, "numbers": [5, 0]}, {**LINE_FAULTS, "numbers": TEXT_FAULTS}),
    (readings.state_behind, {**LINE, "tick": 40}, {**LINE_FAULTS, "tick": TICK_FAULTS}),
]

SPEED_CALLS = [
    (speeds.safe_lengths, {"shape": SHAPE, "receiver": RECEIVER},
     {"shape": SHAPE_FAULTS, "receiver": RECEIVER_FAULTS}),
    (speeds.is_safe, SPEED, SPEED_FAULTS),
    (speeds.margin, SPEED, SPEED_FAULTS),
    (speeds.safe_grains, {"shape": SHAPE, "wait": 8, "step": 16, "length": 160},
     {"shape": SHAPE_FAULTS, "wait": FROM_0_FAULTS, "step": FROM_1_FAULTS, "length": LENGTH_FAULTS}),
    (speeds.safe_waits, {"shape": SHAPE, "grain": 10, "step": 16, "length": 160},
     {"shape": SHAPE_FAULTS, "grain": FROM_1_FAULTS, "step": FROM_1_FAULTS, "length": LENGTH_FAULTS}),
    (speeds.safe_steps, {"shape": SHAPE, "grain": 10, "wait": 8, "length": 160},
     {"shape": SHAPE_FAULTS, "grain": FROM_1_FAULTS, "wait": FROM_0_FAULTS, "length": LENGTH_FAULTS}),
    (speeds.best_wait, {"shape": SHAPE, "grain": 10, "step": 16, "length": 160},
     {"shape": SHAPE_FAULTS, "grain": FROM_1_FAULTS, "step": FROM_1_FAULTS, "length": LENGTH_FAULTS}),
    (speeds.is_safe_span, {"shape": SHAPE, "receiver": RECEIVER, "low": 155, "high": 160},
     {"shape": SHAPE_FAULTS, "receiver": RECEIVER_FAULTS, "low": LENGTH_FAULTS,
      "high": integers_from(errors.InvalidLength, 155)}),
    (speeds.misread_paper, {**SPEED, "length": 120}, SPEED_FAULTS),
    (speeds.shows_misread, {**SPEED, "value": (0, [5])}, SPEED_FAULTS),
]

DRIFT_CALLS = [
    (drift.offset_of, {**SPEED_AT, "index": 7}, {**SPEED_AT_FAULTS, "index": FROM_0_FAULTS}),
    (drift.good_offsets, SPEED, SPEED_FAULTS),
    (drift.first_risk, SPEED_AT, SPEED_AT_FAULTS),
    (drift.count_risks, {**SPEED_AT, "many": 7}, {**SPEED_AT_FAULTS, "many": FROM_0_FAULTS}),
    (drift.lasting_phases, SPEED, SPEED_FAULTS),
    (drift.risk_numbers, {**SPEED_AT, "length": 120}, SPEED_AT_FAULTS),
]

LENGTH_CALLS = [
    (lengths.lengths_for, {**TEXT_AT, "most": 400}, {**TEXT_AT_FAULTS, "most": FROM_1_FAULTS}),
    (lengths.next_change, {**TEXT_AT, "length": 160}, {**TEXT_AT_FAULTS, "length": LENGTH_FAULTS}),
    (lone.read_alone, {**SPEED_AT, "number": 5}, {**SPEED_AT_FAULTS, "number": NUMBER_FAULTS}),
    (lone.silent_numbers, {**SPEED_AT, "length": 90}, SPEED_AT_FAULTS),
    (lone.lengths_as, {"shape": SHAPE, "receiver": RECEIVER, "phase": 9, "number": 5, "numbers": [5], "most": 400},
     {"shape": SHAPE_FAULTS, "receiver": RECEIVER_FAULTS, "phase": FIRST_PHASE_FAULTS, "number": NUMBER_FAULTS,
      "numbers": values.short_text_faults(BITS, 0, 8), "most": FROM_1_FAULTS}),
]

PLACE_FAULTS = values.integer_faults(errors.InvalidPlace, [-1, 6, 7, BIG, -BIG])

BIT_CALLS = [
    (bits.parsed, {"shape": SHAPE, "levels": [0, 1, 0, 1, 0, 1, 1, 0], "begin": 7},
     {"shape": SHAPE_FAULTS, "levels": values.levels_faults(),
      "begin": values.integer_faults(errors.InvalidTick, [-1, 9, BIG, -BIG])}),
    (bits.places_along, {"shape": SHAPE, "place": 5, "numbers": [5, 0]},
     {"shape": SHAPE_FAULTS, "place": PLACE_FAULTS, "numbers": TEXT_FAULTS}),
    (bits.place_behind, {"shape": SHAPE, "place": 5, "numbers": [5, 0]},
     {"shape": SHAPE_FAULTS, "place": PLACE_FAULTS, "numbers": TEXT_FAULTS}),
]

MIDST_CALLS = [
    (midst.step_text, ALLOWED, ALLOWED_AND_SHAPE_FAULTS),
    (midst.lasting_places, {"shape": SHAPE, "numbers": [5, 5, 0]},
     {"shape": SHAPE_FAULTS, "numbers": values.short_text_faults(BITS, 1, 8)}),
    (midst.greatest_silence, ALLOWED, ALLOWED_AND_SHAPE_FAULTS),
    (midst.silence_paper, {**ALLOWED, "many": 2}, {**ALLOWED_AND_SHAPE_FAULTS, "many": MANY_FAULTS}),
    (midst.shows_silence, {**ALLOWED, "many": 2, "value": (1, 0, [5, 5])},
     {**ALLOWED_AND_SHAPE_FAULTS, "many": MANY_FAULTS}),
]

TWO_SHAPES = {"shape": SHAPE, "other": (2, "none", 1)}
TWO_SHAPES_FAULTS = {"shape": SHAPE_FAULTS, "other": SHAPE_FAULTS}

MIXED_CALLS = [
    (mixed.read_by, {**TWO_SHAPES, "numbers": [5, 0]}, {**TWO_SHAPES_FAULTS, "numbers": TEXT_FAULTS}),
    (mixed.is_read_by, TWO_SHAPES, TWO_SHAPES_FAULTS),
    (mixed.wrong_text, TWO_SHAPES, TWO_SHAPES_FAULTS),
    (mixed.silent_text, TWO_SHAPES, TWO_SHAPES_FAULTS),
]

# With levels of 2 to 4 ticks this is a signal of [3] and of [7, 7].
RECORD = {"shape": (3, "none", 1), "low": 2, "high": 4, "signal": [0, 2, 10, 12]}
SHORT_SIGNAL_FAULTS = values.short_signal_faults(200)
RECORD_FAULTS = {"shape": SHAPE_FAULTS, "low": LENGTH_FAULTS, "high": integers_from(errors.InvalidLength, 2),
                 "signal": SHORT_SIGNAL_FAULTS}
INDEX_FAULTS = values.integer_faults(errors.InvalidNumber, [-1, 2, 3, BIG, -BIG])

RECORD_CALLS = [
    (records.is_possible, RECORD, RECORD_FAULTS),
    (records.count_texts, RECORD, RECORD_FAULTS),
    (records.nth_text, {**RECORD, "index": 1}, {**RECORD_FAULTS, "index": INDEX_FAULTS}),
    (records.text_index, {**RECORD, "numbers": [7, 7]},
     {**RECORD_FAULTS, "numbers": values.short_text_faults(BITS, 0, 100)}),
    (records.fewest_numbers, RECORD, RECORD_FAULTS),
    (records.most_numbers, RECORD, RECORD_FAULTS),
    (records.sure_numbers, RECORD, RECORD_FAULTS),
    (records.least_high, {"shape": (3, "none", 1), "low": 2, "signal": [0, 2, 10, 12]},
     {"shape": SHAPE_FAULTS, "low": LENGTH_FAULTS, "signal": SHORT_SIGNAL_FAULTS}),
]

TELLING_CALLS = [
    (telling.lengths_of, {"shape": (2, "none", 1), "signal": [0, 6]},
     {"shape": SHAPE_FAULTS, "signal": SIGNAL_FAULTS}),
    (telling.likenesses, {"shape": SHAPE, "number": 5}, {"shape": SHAPE_FAULTS, "number": NUMBER_FAULTS}),
    (telling.telling_numbers, {"shape": SHAPE, "lengths": [10, 15, 20]},
     {"shape": SHAPE_FAULTS, "lengths": values.ascending_lengths_faults()}),
]

FLOW = {"flow": (10, 8, 2, 0, 2)}
RUN = {**FLOW, "size": 3, "many": 3, "takes": [30, 30, 31]}
FLOW_FAULTS = {"flow": values.flow_faults()}
RUN_FAULTS = {**FLOW_FAULTS, "size": FROM_1_FAULTS,
              "many": values.integer_faults(errors.InvalidNumber, [-1, 61, BIG, -BIG]), "takes": values.takes_faults()}
UNSAFE_FAULTS = values.integer_faults(errors.InvalidLength, [0, 1, 150, 180, -1, BIG, -BIG])

FLOW_CALLS = [
    (flow.run_flow, RUN, RUN_FAULTS),
    (flow.lost_in, RUN, RUN_FAULTS),
    (flow.most_waiting, FLOW, FLOW_FAULTS),
    (flow.least_low, {**FLOW, "every": 10},
     {**FLOW_FAULTS, "every": values.integer_faults(errors.InvalidNumber, [9, 0, -10, -BIG])}),
    (flow.worst_delay, {"shape": (8, "none", 1), "receiver": RECEIVER, "length": 160},
     {"shape": SHAPE_FAULTS, "receiver": RECEIVER_FAULTS, "length": UNSAFE_FAULTS}),
]

TEXT_CALLS = [
    (texts.parse_shape, {"text": "7e2"}, {"text": values.shape_text_faults()}),
    (texts.parse_signal, {"text": "-5 0 12"}, {"text": values.signal_text_faults()}),
    (texts.parse_sending, {"shape": SHAPE, "length": 5, "text": "0:5 30:0 65:1"},
     {"shape": SHAPE_FAULTS, "length": LENGTH_FAULTS, "text": values.sending_text_faults(BITS, FRAME_TICKS)}),
]

CALLS = SHAPE_CALLS + SIGNAL_CALLS + READING_CALLS + SPEED_CALLS + DRIFT_CALLS + LENGTH_CALLS + BIT_CALLS + MIDST_CALLS
CALLS += MIXED_CALLS + RECORD_CALLS + TELLING_CALLS + FLOW_CALLS + TEXT_CALLS

# The functions that judge any value and raise no error.
JUDGMENTS = [(shapes.is_shape, {"value": SHAPE}), (signals.is_signal, {"value": [0, 3, 7]}),
             (readings.is_receiver, {"value": RECEIVER})]
