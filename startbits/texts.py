"""Part 15: shapes, signals, sendings and readings as texts of words."""

from startbits.checks import MOST_CHANGES, MOST_NUMBERS, check_length, check_shape, fits
from startbits.errors import InvalidSyntax
from startbits.shapes import size_of
from startbits.words import integer_in, shape_in


def format_shape(shape):
    """The text of a shape."""
    bits, parity, stops = shape
    return f"{bits}{parity[0]}{stops}"


def format_signal(signal):
    """The text of a signal."""
    return " ".join([str(tick) for tick in signal])


def format_sending(sending):
    """The text of a sending."""
    return " ".join([f"{tick}:{number}" for tick, number in sending])


def format_readings(entries):
    """The text of a list of readings."""
    return " ".join([f"{tick}:{word}:{number}" for tick, word, number in entries])


def parse_shape(text):
    """The shape whose text this is."""
    _check_string(text)
    # An empty string has an empty word here: there is no shape without a word.
    words = text.split(" ")
    shape = shape_in(words[0])
    if shape is None:
        raise InvalidSyntax(0)
    if len(words) > 1:
        raise InvalidSyntax(1)
    return shape


def parse_signal(text):
    """The signal whose text this is."""
    _check_string(text)
    signal = []
    for index, word in enumerate(_words_of(text)):
        tick = integer_in(word)
        if index == MOST_CHANGES or tick is None:
            raise InvalidSyntax(index)
        if index > 0 and tick <= signal[-1]:
            raise InvalidSyntax(index)
        signal.append(tick)
    return signal


def parse_sending(shape, length, text):
    """The sending with a shape and a length whose text this is."""
    check_shape(shape)
    check_length(length)
    _check_string(text)
    frame_ticks = size_of(shape) * length
    sending = []
    for index, word in enumerate(_words_of(text)):
        parts = [integer_in(part) for part in word.split(":")]
        if index == MOST_NUMBERS or len(parts) != 2:
            raise InvalidSyntax(index)
        tick, number = parts
        if tick is None or not fits(shape, number):
            raise InvalidSyntax(index)
        if index > 0 and tick - sending[-1][0] < frame_ticks:
            raise InvalidSyntax(index)
        sending.append((tick, number))
    return sending


def _check_string(text):
    """Raise InvalidSyntax unless any value is a string."""
    if not isinstance(text, str):
        raise InvalidSyntax(None)


def _words_of(text):
    """The words of a text, none of an empty string."""
    return [] if text == "" else text.split(" ")
