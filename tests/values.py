"""Values of any kind: what is wrong for each kind of argument, and the error that tells it."""

from startbits import errors


class SaysYes:
    """A value that claims to be equal to everything."""

    def __eq__(self, other):
        return True

    def __ne__(self, other):
        return False


class SaysNothing:
    """A value that fails when it is compared or shown."""

    def __eq__(self, other):
        raise RuntimeError

    def __repr__(self):
        raise RuntimeError

    __hash__ = None


def recursive_list():
    value = []
    value.append(value)
    return value


HUGE = 10 ** 5000

NO_INTEGERS = [None, True, False, 0.0, 1.0, 1.5, float("nan"), float("inf"), 1j, "", "1", b"1", [], [1], (), (1,),
               {}, {1: 1}, {1}, frozenset([1]), range(3), object(), int, len, SaysYes(), SaysNothing(),
               recursive_list()]
NO_LISTS = [value for value in NO_INTEGERS if not isinstance(value, list)] + [0, 1, -1, HUGE, (0, 1), (0, 3, 7), "01"]
NO_TUPLES = [value for value in NO_INTEGERS if not isinstance(value, tuple)] + [0, 1, HUGE, "8n1"]


def told(error, values, **fields):
    """Each value with the error and the fields that it must raise."""
    return [(value, error, fields) for value in values]


def shape_faults():
    shaped = told(errors.InvalidShape, NO_TUPLES + [[8, "none", 1], (), (8,), (8, "none"), (8, "none", 1, 1)],
                  index=None)
    shaped += told(errors.InvalidShape, [(bits, "none", 1) for bits in NO_INTEGERS + [0, 10, -1, HUGE]], index=0)
    shaped += told(errors.InvalidShape, [(0, "None", 3), (True, None, True), ("8", "none", 1)], index=0)
    words = NO_INTEGERS + [0, 1, "None", "none ", "n", "EVEN", b"even", ["odd"], "mark"]
    shaped += told(errors.InvalidShape, [(8, word, 1) for word in words] + [(8, "n", 3)], index=1)
    shaped += told(errors.InvalidShape, [(8, "odd", stops) for stops in NO_INTEGERS + [0, 3, -1, HUGE]], index=2)
    return shaped


def number_faults(bits):
    """What is no number of a shape with so many bits."""
    return told(errors.InvalidNumber, NO_INTEGERS + [-1, 1 << bits, HUGE, -HUGE])


def text_faults(bits):
    """What is no text of a shape with so many bits."""
    wrong = NO_INTEGERS + [-1, 1 << bits, HUGE]
    return (told(errors.InvalidText, NO_LISTS + [[0] * 61, [None] * 61], index=None)
            + told(errors.InvalidText, [[number] for number in wrong] + [[-1, -1], [True] + [0] * 59], index=0)
            + told(errors.InvalidText, [[0, number, 0] for number in wrong] + [[1, -1, "x"]], index=1)
            + told(errors.InvalidText, [[0] * 59 + [1 << bits]], index=59))


def integer_faults(error, beyond):
    """What is no integer, and the integers that may not stand there."""
    return told(error, NO_INTEGERS + beyond)


def signal_faults():
    full = list(range(800))
    return (told(errors.InvalidSignal, NO_LISTS + [list(range(801)), [None] * 801, [0] * 801], index=None)
            + told(errors.InvalidSignal, [[tick] for tick in NO_INTEGERS] + [[None, 3, 2], ["a"] * 800], index=0)
            + told(errors.InvalidSignal, [[0, tick, 5] for tick in NO_INTEGERS], index=1)
            + told(errors.InvalidSignal, [[0, 0], [3, 2, 4], [0, -1, "x"], [HUGE, 1]], index=1)
            + told(errors.InvalidSignal, [[-2, -1, -1], [0, 3, 3, 2], [0, 3, True]], index=2)
            + told(errors.InvalidSignal, [full[:-1] + [798], full[:-1] + ["x"]], index=799))


def sending_faults(bits, frame_ticks):
    """What is no sending of a shape with so many bits, if a frame lasts so many ticks."""
    numbers = NO_INTEGERS + [-1, 1 << bits]
    items = [value for value in NO_TUPLES if not isinstance(value, list)] + [[0, 0], (), (0,), (0, 0, 0)]
    items += [(tick, 0) for tick in NO_INTEGERS] + [(0, number) for number in numbers]
    full = [(frame_ticks * at, 0) for at in range(61)]
    behind = (frame_ticks - 1, 0)
    return (told(errors.InvalidSending, NO_LISTS + [full, [None] * 61, ((0, 0),)], index=None)
            + told(errors.InvalidSending, [[item] for item in items] + [[(0, -1), behind]], index=0)
            + told(errors.InvalidSending, [[(-frame_ticks, 0), item] for item in items], index=1)
            + told(errors.InvalidSending, [[(0, 0), behind], [(0, 0), (0, 0)], [(0, 0), (-1, 0)]], index=1)
            + told(errors.InvalidSending, [[(0, 0), behind, None]], index=1)
            + told(errors.InvalidSending, [full[:2] + [(2 * frame_ticks - 1, 0)]], index=2)
            + told(errors.InvalidSending, [full[:59] + [(frame_ticks * 59 - 1, 0)], full[:59] + [(0,)]], index=59))


def lasts_faults(many):
    """What is no list of just so many lengths."""
    wrong = NO_INTEGERS + [0, -1, -HUGE]
    rest = [1] * (many - 1)
    return (told(errors.InvalidLengths, NO_LISTS + [[], rest, rest + [1, 1], rest + [0, 0], tuple(rest + [1])],
                 index=None)
            + told(errors.InvalidLengths, [[ticks] + rest for ticks in wrong] + [[0] * many], index=0)
            + told(errors.InvalidLengths, [rest + [ticks] for ticks in wrong], index=many - 1)
            + told(errors.InvalidLengths, [[1, 0, *rest[2:], None]], index=1))


def receiver_faults():
    """What is no receiver."""
    faults = told(errors.InvalidReceiver, NO_TUPLES + [[10, 8, 16], (), (10,), (10, 8), (10, 8, 16, 1)], index=None)
    faults += told(errors.InvalidReceiver, [(grain, 8, 16) for grain in NO_INTEGERS + [0, -1, -HUGE]], index=0)
    faults += told(errors.InvalidReceiver, [(0, -1, 0), (None, None, None), (True, 8, 16)], index=0)
    faults += told(errors.InvalidReceiver, [(10, wait, 16) for wait in NO_INTEGERS + [-1, -HUGE]], index=1)
    faults += told(errors.InvalidReceiver, [(10, -1, 0), (10, False, True)], index=1)
    faults += told(errors.InvalidReceiver, [(10, 0, step) for step in NO_INTEGERS + [0, -1, -HUGE]], index=2)
    return faults


def phase_faults():
    """What is no phase."""
    return integer_faults(errors.InvalidPhase, [])


def short_text_faults(bits, least, most):
    """What is no list of so many numbers of a shape with so many bits."""
    wrong = NO_INTEGERS + [-1, 1 << bits, HUGE]
    lists = [[0] * (most + 1), [None] * (most + 1)] + [[]] * least
    return (told(errors.InvalidText, NO_LISTS + lists, index=None)
            + told(errors.InvalidText, [[number] for number in wrong] + [[-1, -1], [True, 0]], index=0)
            + told(errors.InvalidText, [[0, number, 1] for number in wrong] + [[1, -1, "x"]], index=1)
            + told(errors.InvalidText, [[at % (1 << bits) for at in range(most - 1)] + [1 << bits]], index=most - 1))


def allowed_faults(bits):
    """What is no list of 1 to 20 different numbers of a shape with so many bits, which has 20 of them."""
    return (short_text_faults(bits, 1, 20)
            + told(errors.InvalidText, [[0, 0], [3, 3, -1], [2, 2, None]], index=1)
            + told(errors.InvalidText, [[3, 1, 3], [0, 1, 0, 1], [0, 1, True]], index=2)
            + told(errors.InvalidText, [list(range(19)) + [7], list(range(19)) + [18]], index=19))


def short_signal_faults(most):
    """What is no signal of at most so many changes."""
    return (told(errors.InvalidSignal, NO_LISTS + [list(range(most + 1)), [None] * (most + 1), [0] * 801], index=None)
            + told(errors.InvalidSignal, [[tick] for tick in NO_INTEGERS] + [[None, 3, 2], ["a"] * most], index=0)
            + told(errors.InvalidSignal, [[0, tick, 5] for tick in NO_INTEGERS], index=1)
            + told(errors.InvalidSignal, [[0, 0], [3, 2, 4], [0, -1, "x"], [HUGE, 1]], index=1)
            + told(errors.InvalidSignal, [[-2, -1, -1], [0, 3, True]], index=2)
            + told(errors.InvalidSignal, [list(range(most - 1)) + [tick] for tick in (most - 2, "x")], index=most - 1))


def ascending_lengths_faults():
    """What is no ascending list of 2 to 8 lengths."""
    wrong = NO_INTEGERS + [0, -1, -HUGE]
    lists = [[], [1], [None], list(range(1, 10)), [0] * 9, (10, 20)]
    return (told(errors.InvalidLengths, NO_LISTS + lists, index=None)
            + told(errors.InvalidLengths, [[length, 20] for length in wrong] + [[0, 0], [None, None]], index=0)
            + told(errors.InvalidLengths, [[10, length, 20] for length in wrong + [10, 9, 1]], index=1)
            + told(errors.InvalidLengths, [[10, 20, length] for length in [20, 19, 10, True]], index=2)
            + told(errors.InvalidLengths, [[1, 2, 3, 4, 5, 6, 7, length] for length in (7, 0, None)], index=7))


def flow_faults():
    """What is no flow."""
    shapes = [[1600, 1520, 100, 1, 3], (), (1600, 1520, 100, 1), (1600, 1520, 100, 1, 3, 0)]
    faults = told(errors.InvalidFlow, NO_TUPLES + shapes, index=None)
    for index in range(3):
        for item in NO_INTEGERS + [0, -1, -HUGE]:
            flow = [1600, 1520, 100, 1, 3]
            flow[index] = item
            faults += told(errors.InvalidFlow, [tuple(flow)], index=index)
    faults += told(errors.InvalidFlow, [(1, 1, 1, low, 3) for low in NO_INTEGERS + [-1, -HUGE]], index=3)
    faults += told(errors.InvalidFlow, [(1, 1, 1, 2, high) for high in NO_INTEGERS + [2, 1, 0, -1, -HUGE]], index=4)
    faults += told(errors.InvalidFlow, [(1, 1, 1, 0, 0), (1, 1, 1, HUGE, HUGE)], index=4)
    faults += told(errors.InvalidFlow, [(0, 0, 0, -1, -1), (None,) * 5, (True, 1, 1, 0, 1)], index=0)
    faults += told(errors.InvalidFlow, [(1, 0, 0, 0, 0)], index=1)
    faults += told(errors.InvalidFlow, [(1, 1, 1, -1, -1), (1, 1, 1, None, None)], index=3)
    return faults


def takes_faults():
    """What is no list of at most 60 takes."""
    wrong = NO_INTEGERS + [-1, -HUGE]
    return (told(errors.InvalidTakes, NO_LISTS + [[0] * 61, [None] * 61, [-1] * 61], index=None)
            + told(errors.InvalidTakes, [[tick] for tick in wrong] + [[-1, -2], [None, 0]], index=0)
            + told(errors.InvalidTakes, [[5, tick, 7] for tick in wrong + [4, 0]] + [[HUGE, 1]], index=1)
            + told(errors.InvalidTakes, [[5, 5, 6, 5], [0, 0, 0, False]], index=3)
            + told(errors.InvalidTakes, [[1] * 59 + [0], [1] * 59 + ["x"]], index=59))


NO_STRINGS = [value for value in NO_INTEGERS if not isinstance(value, str)] + [0, 1, HUGE, ["8n1"], ("8n1",), b"8n1"]

# No text of an integer: the last ones have other digits than 0 to 9, and more than 30 of them.
NO_NUMBERS = ["", "-", "+", "+1", "-0", "--1", "00", "01", "-01", "1.0", "1e3", "0x1", "1_0", "one", "1-", "None",
              "\n", "1\n", "\n1", "\t1", "1\t", "1,", ",", chr(0x661), chr(0xb2), chr(0xff11), "1" + chr(0x662),
              "1" + "0" * 30, "-1" + "0" * 30, "9" * 31]


def shape_text_faults():
    """What is no text of a shape."""
    wrong = ["", "8", "8n", "8n1x", "x8n1", "08n1", "0n1", "10n1", "8n0", "8n3", "8N1", "8x1", "8 n1", "n81", "8nn",
             "-8n1", "8none1", "8n1\n", "\n8n1", chr(0x668) + "n1", "8n" + chr(0xb9), "8:n1", "(8,", "888", "nnn"]
    return (told(errors.InvalidSyntax, NO_STRINGS, word=None)
            + told(errors.InvalidSyntax, wrong + [" ", "  ", " 8n1", "8 n 1", "x 8n1", "8n 1"], word=0)
            + told(errors.InvalidSyntax, ["8n1 ", "8n1 8n1", "8n1  ", "8n1 x", "7e2  8n1"], word=1))


def signal_text_faults():
    """What is no text of a signal."""
    full = [str(3 * tick) for tick in range(800)]
    wrong = NO_NUMBERS[1:]
    return (told(errors.InvalidSyntax, NO_STRINGS, word=None)
            + told(errors.InvalidSyntax, wrong + [word + " 5" for word in wrong] + [" ", " 5", "5:1", "- 5"], word=0)
            + told(errors.InvalidSyntax, ["5 " + word for word in NO_NUMBERS] + ["5 5", "5 4", "5 -6", "5  6"], word=1)
            + told(errors.InvalidSyntax, ["-5 0 0", "-5 -4 -4", "0 1 ", "0 1  2", "0 1 x y"], word=2)
            + told(errors.InvalidSyntax, [" ".join(full[:-1] + [word]) for word in ("2394", "x", "")], word=799)
            + told(errors.InvalidSyntax, [" ".join(full + [word]) for word in ("2400", "x", "", "0", "2400 x")],
                   word=800))


def sending_text_faults(bits, frame_ticks):
    """What is no text of a sending of a shape with so many bits, if a frame lasts so many ticks."""
    full = [f"{frame_ticks * at}:0" for at in range(60)]
    numbers = NO_NUMBERS + ["-1", str(1 << bits)]
    wrong = [word + ":0" for word in NO_NUMBERS] + ["0:" + word for word in numbers]
    wrong += ["0", ":", "0:0:0", "0::0", ":0:0", "0:0:", "0;0", "0:good:0", "(0,0)"]
    near = f"{frame_ticks - 1}:0"
    return (told(errors.InvalidSyntax, NO_STRINGS, word=None)
            + told(errors.InvalidSyntax, wrong + [word + f" {frame_ticks}:0" for word in wrong] + [" ", " 0:0"], word=0)
            + told(errors.InvalidSyntax, [f"-{frame_ticks}:0 {word}" for word in wrong + [""]], word=1)
            + told(errors.InvalidSyntax, [f"0:0 {near}", "0:0 0:0", "0:0 -1:0", f"0:0  {near}", "0:0 "], word=1)
            + told(errors.InvalidSyntax, [f"0:0 {frame_ticks}:0 ", f"0:0 {frame_ticks}:0 {2 * frame_ticks - 1}:0"],
                   word=2)
            + told(errors.InvalidSyntax, [" ".join(full[:-1] + [word]) for word in ("0:0", "x", "")], word=59)
            + told(errors.InvalidSyntax, [" ".join(full + [word]) for word in (f"{60 * frame_ticks}:0", "x", "")],
                   word=60))


def levels_faults():
    """What is no list of at most 800 levels."""
    wrong = NO_INTEGERS + [2, -1, HUGE]
    return (told(errors.InvalidLevels, NO_LISTS + [[0] * 801, [None] * 801, (0, 1)], index=None)
            + told(errors.InvalidLevels, [[level] for level in wrong] + [[2, 2], [True, 0]], index=0)
            + told(errors.InvalidLevels, [[0, level, 1] for level in wrong] + [[1, -1, "x"]], index=1)
            + told(errors.InvalidLevels, [[1] * 799 + [level] for level in (2, True, None)], index=799))
