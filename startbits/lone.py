"""Part 7: what a number is read as that is sent alone."""

from startbits.checks import check_first_phase, check_int_from, check_number, check_receiver, check_shape
from startbits.checks import check_speed, check_text_between
from startbits.shapes import frame_of
from startbits.signals import sent_text
from startbits.stretches import cut_at, lengths_reading
from startbits.walk import readings_along

MOST_READ = 8


def read_alone(shape, receiver, length, phase, number):
    """The readings of a number alone."""
    check_speed(shape, receiver, length)
    check_first_phase(receiver, phase)
    check_number(shape, number)
    return _readings_of(shape, receiver, length, phase, number)


def silent_numbers(shape, receiver, length, phase):
    """The numbers that, alone, are not read right without a reading that is not good, and what is read."""
    check_speed(shape, receiver, length)
    check_first_phase(receiver, phase)
    silent = []
    for number in range(1 << shape[0]):
        found = _readings_of(shape, receiver, length, phase, number)
        numbers = [read for _, _, read in found]
        if all([word == "good" for _, word, _ in found]) and numbers != [number]:
            silent.append((number, numbers))
    return silent


def lengths_as(shape, receiver, phase, number, numbers, most):
    """The stretches of lengths from 1 to most at which a number alone is read as a text."""
    check_shape(shape)
    check_receiver(receiver)
    check_first_phase(receiver, phase)
    check_number(shape, number)
    check_text_between(0, MOST_READ, shape, numbers)
    check_int_from(1, most)
    return cut_at(most, lengths_reading(shape, receiver, phase, frame_of(shape, number), numbers))


def _readings_of(shape, receiver, length, phase, number):
    """The readings of a number alone, for valid values."""
    return readings_along(shape, receiver, phase, sent_text(shape, length, [number], 0))
