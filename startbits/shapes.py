"""Part 1: shapes, their numbers, and the frames of numbers."""

from startbits.checks import check_number, check_shape, check_text, fits, is_level
from startbits.errors import InvalidShape


def is_shape(value):
    """Whether any value is a shape."""
    try:
        check_shape(value)
    except InvalidShape:
        return False
    return True


def size_of(shape):
    """The length of the frames of a shape."""
    check_shape(shape)
    bits, parity, stops = shape
    parity_bits = 0 if parity == "none" else 1
    return 1 + bits + parity_bits + stops


def is_number(shape, value):
    """Whether any value is a number of the shape."""
    check_shape(shape)
    return fits(shape, value)


def parity_of(shape, number):
    """The parity bit of a number, None if the shape has none."""
    check_shape(shape)
    check_number(shape, number)
    parity = shape[1]
    if parity == "none":
        return None
    odd_ones = sum(_bits_of(shape, number)) % 2
    return odd_ones if parity == "even" else 1 - odd_ones


def frame_of(shape, number):
    """The levels of the frame of a number."""
    # This checks both arguments, too.
    parity_bit = parity_of(shape, number)
    parity_bits = [] if parity_bit is None else [parity_bit]
    stop_bits = [1] * shape[2]
    return [0] + _bits_of(shape, number) + parity_bits + stop_bits


def number_of(shape, value):
    """The number whose frame any value is, None if it is no frame."""
    if not _are_levels(size_of(shape), value):
        return None
    bits = value[1:1 + shape[0]]
    number = sum([bit << at for at, bit in enumerate(bits)])
    return number if frame_of(shape, number) == value else None


def levels_of(shape, numbers):
    """The levels of a text that is sent without gaps, one for each place of each frame."""
    check_shape(shape)
    check_text(shape, numbers)
    levels = []
    for number in numbers:
        levels.extend(frame_of(shape, number))
    return levels


def _bits_of(shape, number):
    """The bits of a number of the shape, the least one first."""
    return [number >> at & 1 for at in range(shape[0])]


def _are_levels(many, value):
    """Whether any value is a list of just so many levels."""
    if not isinstance(value, list) or len(value) != many:
        return False
    return all([is_level(level) for level in value])
