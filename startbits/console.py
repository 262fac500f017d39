"""Part 16: a console with one line, which carries out commands."""

from startbits.drift import first_risk
from startbits.errors import InvalidCommand
from startbits.live import Line
from startbits.records import count_texts
from startbits.speeds import safe_lengths
from startbits.telling import lengths_of
from startbits.texts import format_readings, format_signal
from startbits.words import integer_in, shape_in

DONE = "ok"
NONE = "none"


# Each of these carries out one command, with the values of the words behind it, and returns the answer.

def _new_shape(console, values):
    console.begin(values[0], console.receiver, console.phase)
    return DONE


def _new_receiver(console, values):
    console.begin(console.shape, tuple(values), console.phase)
    return DONE


def _new_phase(console, values):
    console.begin(console.shape, console.receiver, values[0])
    return DONE


def _set_level(console, values):
    console.line.set_level(values[0], values[1])
    return DONE


def _wait(console, values):
    console.line.wait(values[0])
    return DONE


def _undo(console, _):
    console.line.undo()
    return DONE


def _readings(console, _):
    return _text_or_none(format_readings(console.line.readings))


def _would(console, _):
    return _text_or_none(format_readings(console.line.would_be()))


def _signal(console, _):
    return _text_or_none(format_signal(console.line.signal))


def _state(console, _):
    word, look = console.line.state
    return word if look is None else f"{word} {look}"


def _next(console, _):
    return str(console.line.next_look)


def _calls(console, _):
    return str(len(console.line))


def _safe(console, _):
    found = safe_lengths(console.shape, console.receiver)
    return NONE if found is None else f"{found[0]} {found[1]}"


def _risk(console, values):
    index = first_risk(console.shape, console.receiver, values[0], console.phase)
    return NONE if index is None else str(index)


def _lengths(console, _):
    found = lengths_of(console.shape, console.line.signal)
    return _text_or_none(" ".join([str(length) for length, _ in found]))


def _texts(console, values):
    low, high = values
    return str(count_texts(console.shape, low, high, console.line.signal))


# How many words stand behind the word of a command. Those of shape are texts of shapes, all others numbers.
MANY_WORDS = {
    "shape": 1, "receiver": 3, "phase": 1, "level": 2, "wait": 1, "undo": 0, "readings": 0, "would": 0, "signal": 0,
    "state": 0, "next": 0, "calls": 0, "safe": 0, "risk": 1, "lengths": 0, "texts": 2,
}

ACTIONS = {
    "shape": _new_shape, "receiver": _new_receiver, "phase": _new_phase, "level": _set_level, "wait": _wait,
    "undo": _undo, "readings": _readings, "would": _would, "signal": _signal, "state": _state, "next": _next,
    "calls": _calls, "safe": _safe, "risk": _risk, "lengths": _lengths, "texts": _texts,
}


class Console:
    """A shape, a receiver, a phase, and a line of them."""

    def __init__(self):
        self.begin((8, "none", 1), (10, 8, 16), 0)

    def execute(self, command):
        """Carry out a command, and return its answer."""
        if not isinstance(command, str):
            raise InvalidCommand("a command is a string")
        words = command.split(" ")
        name = words[0]
        if name not in ACTIONS or len(words) - 1 != MANY_WORDS[name]:
            raise InvalidCommand("there is no such command with so many words")
        values = [shape_in(word) if name == "shape" else integer_in(word) for word in words[1:]]
        if None in values:
            raise InvalidCommand("a word behind the command has another form")
        action = ACTIONS[name]
        return action(self, values)

    def begin(self, shape, receiver, phase):
        """Begin a new line without calls."""
        # If a value is wrong this raises an error, and the console stays as it was.
        self.line = Line(shape, receiver, phase)
        self.shape = shape
        self.receiver = receiver
        self.phase = phase


def _text_or_none(text):
    """A text, or the answer of an empty list."""
    return NONE if text == "" else text
