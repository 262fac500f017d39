"""Each function that raises errors, with a valid call and what is wrong for each argument."""

from startbits import errors, shapes, signals
from tests import values

SHAPE = (3, "even", 1)
BITS = 3
FRAME_TICKS = 6 * 5
INTEGER_ENDS = values.integer_faults(errors.InvalidTick, [4, 3, -10, -values.HUGE])

SHAPE_FAULTS = values.shape_faults()
NUMBER_FAULTS = values.number_faults(BITS)
TEXT_FAULTS = values.text_faults(BITS)
SIGNAL_FAULTS = values.signal_faults()
TICK_FAULTS = values.integer_faults(errors.InvalidTick, [])
LENGTH_FAULTS = values.integer_faults(errors.InvalidLength, [0, -1, -values.HUGE])
SENDING_FAULTS = values.sending_faults(BITS, FRAME_TICKS)
LASTS_FAULTS = values.lasts_faults(12)

# (function, valid arguments in the order of the signature, faults of each argument that has any)
CALLS = [
    (shapes.size_of, {"shape": SHAPE}, {"shape": SHAPE_FAULTS}),
    (shapes.is_number, {"shape": SHAPE, "value": 5}, {"shape": SHAPE_FAULTS}),
    (shapes.parity_of, {"shape": SHAPE, "number": 5}, {"shape": SHAPE_FAULTS, "number": NUMBER_FAULTS}),
    (shapes.frame_of, {"shape": SHAPE, "number": 5}, {"shape": SHAPE_FAULTS, "number": NUMBER_FAULTS}),
    (shapes.number_of, {"shape": SHAPE, "value": [0, 1, 0, 1, 0, 1]}, {"shape": SHAPE_FAULTS}),
    (shapes.levels_of, {"shape": SHAPE, "numbers": [5, 0]}, {"shape": SHAPE_FAULTS, "numbers": TEXT_FAULTS}),
    (signals.level_at, {"signal": [0, 3, 7], "tick": 4}, {"signal": SIGNAL_FAULTS, "tick": TICK_FAULTS}),
    (signals.runs_between, {"signal": [0, 3, 7], "begin": 4, "end": 9},
     {"signal": SIGNAL_FAULTS, "begin": TICK_FAULTS, "end": INTEGER_ENDS}),
    (signals.sent, {"shape": SHAPE, "length": 5, "sending": [(0, 5), (30, 0), (65, 1)]},
     {"shape": SHAPE_FAULTS, "length": LENGTH_FAULTS, "sending": SENDING_FAULTS}),
    (signals.sent_text, {"shape": SHAPE, "length": 5, "numbers": [5, 0], "begin": -3},
     {"shape": SHAPE_FAULTS, "length": LENGTH_FAULTS, "numbers": TEXT_FAULTS, "begin": TICK_FAULTS}),
    (signals.sent_unevenly, {"shape": SHAPE, "numbers": [5, 0], "begin": -3, "lasts": [2, 3] * 6},
     {"shape": SHAPE_FAULTS, "numbers": TEXT_FAULTS, "begin": TICK_FAULTS, "lasts": LASTS_FAULTS}),
    (signals.moved, {"signal": [0, 3, 7], "by": -2},
     {"signal": SIGNAL_FAULTS, "by": values.integer_faults(errors.InvalidNumber, [])}),
    (signals.multiplied, {"signal": [0, 3, 7], "by": 2},
     {"signal": SIGNAL_FAULTS, "by": values.integer_faults(errors.InvalidNumber, [0, -1, -values.HUGE])}),
    (signals.together, {"one": [0, 3, 7], "other": [2, 9]}, {"one": SIGNAL_FAULTS, "other": SIGNAL_FAULTS}),
]

# The functions that judge any value and raise no error.
JUDGMENTS = [(shapes.is_shape, {"value": SHAPE}), (signals.is_signal, {"value": [0, 3, 7]})]
