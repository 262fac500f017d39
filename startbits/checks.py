"""What several parts ask of their arguments: judgments, and checks that raise.

Messages never show an argument: it may be any value, and Python refuses to
write out very long integers.
"""

from startbits.errors import InvalidLength, InvalidNumber, InvalidPhase, InvalidReceiver
from startbits.errors import InvalidShape, InvalidSignal, InvalidText, InvalidTick

PARITIES = ("none", "even", "odd")
MOST_BITS = 9
MOST_STOPS = 2
MOST_NUMBERS = 60
MOST_CHANGES = 800


def is_int(value):
    """Whether any value is an integer of this package."""
    # Python counts True and False among the integers, the document does not.
    return isinstance(value, int) and not isinstance(value, bool)


def is_int_from(least, value):
    """Whether any value is an integer that is not below the least one."""
    return is_int(value) and value >= least


def is_int_between(least, most, value):
    """Whether any value is an integer from the least to the greatest one."""
    return is_int(value) and least <= value <= most


def is_level(value):
    """Whether any value is the integer 0 or 1."""
    return is_int_between(0, 1, value)


def is_parity(value):
    """Whether any value is the word of a parity."""
    return isinstance(value, str) and value in PARITIES


def fits(shape, value):
    """Whether any value is a number of a valid shape."""
    return is_int_between(0, (1 << shape[0]) - 1, value)


def is_list_up_to(most, value):
    """Whether any value is a list of at most so many items."""
    return isinstance(value, list) and len(value) <= most


def check_shape(shape):
    """Raise InvalidShape unless any value is a shape."""
    if not isinstance(shape, tuple) or len(shape) != 3:
        raise InvalidShape(None)
    bits, parity, stops = shape
    if not is_int_between(1, MOST_BITS, bits):
        raise InvalidShape(0)
    if not is_parity(parity):
        raise InvalidShape(1)
    if not is_int_between(1, MOST_STOPS, stops):
        raise InvalidShape(2)


def check_number(shape, number):
    """Raise InvalidNumber unless any value is a number of a valid shape."""
    if not fits(shape, number):
        raise InvalidNumber("this is no number of the shape")


def check_text(shape, numbers):
    """Raise InvalidText unless any value is a text of a valid shape."""
    check_text_between(0, MOST_NUMBERS, shape, numbers)


def check_text_between(least, most, shape, numbers):
    """Raise InvalidText unless any value is a text of so many numbers of a valid shape."""
    if not is_list_up_to(most, numbers) or len(numbers) < least:
        raise InvalidText(None)
    for index, number in enumerate(numbers):
        if not fits(shape, number):
            raise InvalidText(index)


def check_int_from(least, number):
    """Raise InvalidNumber unless any value is an integer that is not below the least one."""
    if not is_int_from(least, number):
        raise InvalidNumber(f"this is no integer from {least} on")


def check_length(length):
    """Raise InvalidLength unless any value is a length."""
    if not is_int_from(1, length):
        raise InvalidLength("a length is an integer from 1 on")


def check_receiver(receiver):
    """Raise InvalidReceiver unless any value is a receiver."""
    if not isinstance(receiver, tuple) or len(receiver) != 3:
        raise InvalidReceiver(None)
    grain, wait, step = receiver
    if not is_int_from(1, grain):
        raise InvalidReceiver(0)
    if not is_int_from(0, wait):
        raise InvalidReceiver(1)
    if not is_int_from(1, step):
        raise InvalidReceiver(2)


def check_phase(phase):
    """Raise InvalidPhase unless any value is a phase."""
    if not is_int(phase):
        raise InvalidPhase("a phase is an integer")


def check_first_phase(receiver, phase):
    """Raise InvalidPhase unless any value is a phase from 0 to the grain of a valid receiver minus 1."""
    if not is_int_between(0, receiver[0] - 1, phase):
        raise InvalidPhase("this phase is an integer from 0 to the grain minus 1")


def check_speed(shape, receiver, length):
    """Raise the error of the first of these values that is none of its kind."""
    check_shape(shape)
    check_receiver(receiver)
    check_length(length)


def check_tick(tick):
    """Raise InvalidTick unless any value is a tick."""
    if not is_int(tick):
        raise InvalidTick("a tick is an integer")


def check_signal(signal):
    """Raise InvalidSignal unless any value is a signal."""
    if not is_list_up_to(MOST_CHANGES, signal):
        raise InvalidSignal(None)
    for index, tick in enumerate(signal):
        if not is_int(tick):
            raise InvalidSignal(index)
        if index > 0 and tick <= signal[index - 1]:
            raise InvalidSignal(index)
