"""Part 5: how the offsets of the numbers of a text without gaps drift, and which ones are at risk."""

from math import gcd

from startbits.checks import check_first_phase, check_int_from, check_speed
from startbits.misread import misread_pair
from startbits.shapes import size_of
from startbits.windows import good_stretch


def offset_of(shape, receiver, length, phase, index):
    """The offset of the number with an index."""
    _check_text_at(shape, receiver, length, phase)
    check_int_from(0, index)
    return _offset_at(shape, receiver, length, phase, index)


def good_offsets(shape, receiver, length):
    """The least and the greatest good offset, None if there is none."""
    check_speed(shape, receiver, length)
    return good_stretch(shape, receiver, length)


def first_risk(shape, receiver, length, phase):
    """The least index of a number that is at risk, None if no number ever is."""
    _check_text_at(shape, receiver, length, phase)
    return _first_at_risk(shape, receiver, length, phase)


def count_risks(shape, receiver, length, phase, many):
    """How many of the first numbers are at risk."""
    _check_text_at(shape, receiver, length, phase)
    check_int_from(0, many)
    return _count_at_risk(shape, receiver, length, phase, many)


def lasting_phases(shape, receiver, length):
    """The modulus, and the least and the greatest phase modulo it at which no number is ever at risk."""
    check_speed(shape, receiver, length)
    good = good_stretch(shape, receiver, length)
    if good is None:
        return None
    grain = receiver[0]
    modulus = gcd(grain, size_of(shape) * length)
    # The offsets of a phase are all those that are equal to it by the modulus: the least one is the
    # phase modulo the modulus, and the greatest one lies grain - modulus above it.
    least = good[0]
    greatest = good[1] - (grain - modulus)
    return (modulus, least, greatest) if least <= greatest else None


def risk_numbers(shape, receiver, length, phase):
    """Two numbers that are not read right if the first number at risk is the one, None if none ever is."""
    _check_text_at(shape, receiver, length, phase)
    index = _first_at_risk(shape, receiver, length, phase)
    if index is None:
        return None
    return misread_pair(shape, receiver, length, _offset_at(shape, receiver, length, phase, index))


def _check_text_at(shape, receiver, length, phase):
    """Raise the error of the first of these values that is none of its kind."""
    check_speed(shape, receiver, length)
    check_first_phase(receiver, phase)


def _offset_at(shape, receiver, length, phase, index):
    """The offset of the number with an index, for valid values."""
    return (phase - index * size_of(shape) * length) % receiver[0]


def _first_at_risk(shape, receiver, length, phase):
    """The least index of a number that is at risk, None if no number ever is, for valid values."""
    # Behind so many numbers the offsets are the same again.
    high = receiver[0] // gcd(receiver[0], size_of(shape) * length)
    if _count_at_risk(shape, receiver, length, phase, high) == 0:
        return None
    low = 0
    while high - low > 1:
        middle = (low + high) // 2
        if _count_at_risk(shape, receiver, length, phase, middle) == 0:
            low = middle
        else:
            high = middle
    return low


def _count_at_risk(shape, receiver, length, phase, many):
    """How many of the first numbers are at risk, for valid values."""
    good = good_stretch(shape, receiver, length)
    if good is None:
        return many
    grain = receiver[0]
    least, greatest = good
    # The offsets grow by this modulo the grain from number to number. An offset x is good if
    # (x - least) // grain is greater than (x - greatest - 1) // grain, then by 1, else it is equal.
    by = -size_of(shape) * length % grain
    above_least = _sum_of_quotients(many, grain, by, phase - least)
    above_greatest = _sum_of_quotients(many, grain, by, phase - greatest - 1)
    return many - (above_least - above_greatest)


def _sum_of_quotients(many, bottom, by, begin):
    """The sum of (begin + by * k) // bottom for k from 0 to many - 1.

    As in Euclid's algorithm, each turn takes out whole multiples of the bottom, and counts what is
    left along the other axis: the points below a line are the same in number from both sides.
    """
    total = 0
    while True:
        total = total + many * (many - 1) // 2 * (by // bottom) + many * (begin // bottom)
        by = by % bottom
        begin = begin % bottom
        reach = by * many + begin
        if reach < bottom:
            return total
        many = reach // bottom
        begin = reach % bottom
        bottom, by = by, bottom
