"""Part 3: receivers, and what they read of a signal."""

from startbits.checks import check_phase, check_receiver, check_shape, check_signal, check_text, check_tick
from startbits.errors import InvalidReceiver
from startbits.walk import first_from, frame_looks, readings_along, reads, state_along


def is_receiver(value):
    """Whether any value is a receiver."""
    try:
        check_receiver(value)
    except InvalidReceiver:
        return False
    return True


def first_look(receiver, phase, tick):
    """The first tick, not less than a tick, at which an idle receiver looks at the line."""
    check_receiver(receiver)
    check_phase(phase)
    check_tick(tick)
    return first_from(receiver[0], phase, max(phase, tick))


def looks_of(shape, receiver, tick):
    """The ticks of the looks of a frame whose start look is at a tick."""
    check_shape(shape)
    check_receiver(receiver)
    check_tick(tick)
    return frame_looks(shape, receiver, tick)


def readings(shape, receiver, phase, signal):
    """All readings of a receiver with a phase, in their sequence."""
    _check_line(shape, receiver, phase, signal)
    return readings_along(shape, receiver, phase, signal)


def is_read_right(shape, receiver, phase, signal, numbers):
    """Whether all readings of a signal are good, and their numbers are the text."""
    _check_line(shape, receiver, phase, signal)
    check_text(shape, numbers)
    return reads(shape, receiver, phase, signal, numbers)


def state_behind(shape, receiver, phase, signal, tick):
    """The state of a receiver behind all its looks up to a tick, this tick included."""
    _check_line(shape, receiver, phase, signal)
    check_tick(tick)
    return state_along(shape, receiver, phase, signal, tick)


def _check_line(shape, receiver, phase, signal):
    """Raise the error of the first of these values that is none of its kind."""
    check_shape(shape)
    check_receiver(receiver)
    check_phase(phase)
    check_signal(signal)
