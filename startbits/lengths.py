"""Part 6: the lengths at which a text without gaps is read right at one phase."""

from startbits.checks import check_first_phase, check_int_from, check_length, check_receiver, check_shape
from startbits.checks import check_text_between
from startbits.shapes import levels_of
from startbits.stretches import cut_at, lengths_reading

MOST_NUMBERS = 8


def lengths_for(shape, receiver, phase, numbers, most):
    """The stretches of lengths from 1 to most at which a text is read right."""
    _check_text_at(shape, receiver, phase, numbers)
    check_int_from(1, most)
    return cut_at(most, _right_lengths(shape, receiver, phase, numbers))


def next_change(shape, receiver, phase, numbers, length):
    """The least greater length at which a text is read right if it is not at this one, or the reverse."""
    _check_text_at(shape, receiver, phase, numbers)
    check_length(length)
    for least, greatest in _right_lengths(shape, receiver, phase, numbers):
        if length < least:
            return least
        if length <= greatest:
            return greatest + 1
    return None


def _right_lengths(shape, receiver, phase, numbers):
    """The stretches of all lengths at which a text is read right."""
    return lengths_reading(shape, receiver, phase, levels_of(shape, numbers), numbers)


def _check_text_at(shape, receiver, phase, numbers):
    """Raise the error of the first of these values that is none of its kind."""
    check_shape(shape)
    check_receiver(receiver)
    check_first_phase(receiver, phase)
    check_text_between(1, MOST_NUMBERS, shape, numbers)
