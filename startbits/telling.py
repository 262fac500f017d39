"""Part 12: at which lengths a signal can have been sent, and which numbers tell lengths apart."""

from math import gcd

from startbits.checks import check_number, check_shape, check_signal, is_int_from, is_list_up_to
from startbits.errors import InvalidLengths
from startbits.shapes import number_of, size_of
from startbits.signals import sent_text

LEAST_LENGTHS = 2
MOST_LENGTHS = 8
# The length of a frame is at most 13 levels: any integer from 1 to 13 divides this one.
ALL_DIVIDE = 360360


def lengths_of(shape, signal):
    """The ascending tuples (length, numbers) of the sendings that have this signal."""
    check_shape(shape)
    check_signal(signal)
    if signal == [] or len(signal) % 2 == 1:
        return []
    lasts = [behind - ahead for ahead, behind in zip(signal, signal[1:])]
    found = []
    # The first run of 0 has the start bit and at the most all levels that are no stop bits.
    for levels in reversed(range(1, size_of(shape) - shape[2] + 1)):
        if lasts[0] % levels == 0:
            length = lasts[0] // levels
            numbers = _numbers_at(shape, length, lasts)
            if numbers is not None:
                found.append((length, numbers))
    return found


def likenesses(shape, number):
    """The tuples (top, bottom, numbers) for which a number at one length is a sending at another."""
    check_shape(shape)
    check_number(shape, number)
    found = []
    for length, numbers in reversed(lengths_of(shape, sent_text(shape, ALL_DIVIDE, [number], 0))):
        if length != ALL_DIVIDE:
            top, bottom = _lowest(length, ALL_DIVIDE)
            found.append((top, bottom, numbers))
    return found


def telling_numbers(shape, lengths):
    """The ascending numbers that tell each two of these lengths apart."""
    check_shape(shape)
    _check_lengths(lengths)
    quotients = [_lowest(other, length) for length in lengths for other in lengths if other != length]
    telling = []
    for number in range(1 << shape[0]):
        like = [(top, bottom) for top, bottom, _ in likenesses(shape, number)]
        if not any([quotient in quotients for quotient in like]):
            telling.append(number)
    return telling


def _lowest(top, bottom):
    """A quotient as a tuple (top, bottom) in lowest terms."""
    common = gcd(top, bottom)
    return (top // common, bottom // common)


def _numbers_at(shape, length, lasts):
    """The numbers of the sending with a length whose runs last so long, None if there is none.

    The last run of the sending, at the level 1, is not among them: it lasts for ever.
    """
    numbers = []
    at = 0
    while at < len(lasts):
        number, at = _number_from(shape, length, lasts, at)
        if number is None:
            return None
        numbers.append(number)
    return numbers


def _number_from(shape, length, lasts, at):
    """The number whose frame begins with a run of 0, and the run behind the frame; None if there is none."""
    size = size_of(shape)
    levels = []
    while len(levels) < size:
        level = at % 2
        room = size - len(levels)
        # The line can be quiet behind the frame for any time, behind the last one for ever.
        if level == 1 and (at == len(lasts) or lasts[at] >= room * length):
            many = room
        elif lasts[at] % length == 0:
            many = lasts[at] // length
        else:
            return None, at
        if many > room:
            return None, at
        levels.extend([level] * many)
        at = at + 1
    return number_of(shape, levels), at


def _check_lengths(lengths):
    """Raise InvalidLengths unless any value is an ascending list of 2 to 8 lengths."""
    if not is_list_up_to(MOST_LENGTHS, lengths) or len(lengths) < LEAST_LENGTHS:
        raise InvalidLengths(None)
    for index, length in enumerate(lengths):
        if not is_int_from(1, length):
            raise InvalidLengths(index)
        if index > 0 and length <= lengths[index - 1]:
            raise InvalidLengths(index)
