"""Part 4: the lengths, grains, waits and steps at which every text is read right."""

from startbits.checks import check_int_from, check_length, check_receiver, check_shape, check_speed
from startbits.checks import fits, is_int_between, is_int_from, is_list_up_to
from startbits.errors import InvalidLength
from startbits.misread import is_misread, misread_pair
from startbits.windows import ceiling, good_stretch, stretch, windows_of


def safe_lengths(shape, receiver):
    """The least and the greatest safe length, None if there is none."""
    check_shape(shape)
    check_receiver(receiver)
    least, greatest = _length_limits(shape, receiver)
    return stretch(least, greatest)


def is_safe(shape, receiver, length):
    """Whether a length is safe."""
    check_speed(shape, receiver, length)
    return _holds(shape, receiver, length, length)


def margin(shape, receiver, length):
    """By how much a length may change at the most and stay safe, None if it is not safe."""
    check_speed(shape, receiver, length)
    least, greatest = _length_limits(shape, receiver)
    by = min(length - least, greatest - length)
    return None if by < 0 else by


def safe_grains(shape, wait, step, length):
    """The least and the greatest grain for which a length is safe, None if there is none."""
    check_shape(shape)
    check_int_from(0, wait)
    check_int_from(1, step)
    check_length(length)
    looks = [(first, behind, wait + step * place) for place, first, behind in windows_of(shape)]
    # The look with the place 0 must not be ahead of the frame, which it never is.
    least = max([ceiling(first * length, grains) for first, _, grains in looks if first > 0])
    greatest = min([behind * length // (grains + 1) for _, behind, grains in looks])
    return stretch(least, greatest)


def safe_waits(shape, grain, step, length):
    """The least and the greatest wait for which a length is safe, None if there is none."""
    check_shape(shape)
    check_int_from(1, grain)
    check_int_from(1, step)
    check_length(length)
    return _waits_for_span(shape, grain, step, length, length)


def safe_steps(shape, grain, wait, length):
    """The least and the greatest step for which a length is safe, None if there is none."""
    check_shape(shape)
    check_int_from(1, grain)
    check_int_from(0, wait)
    check_length(length)
    # The look with the place 0 is the same for each step. If it is in its window, the looks behind
    # it are not in theirs with a step below 1.
    if grain * (wait + 1) > length:
        return None
    looks = [window for window in windows_of(shape) if window[0] > 0]
    least = max([ceiling(first * length - grain * wait, grain * place) for place, first, _ in looks])
    greatest = min([(behind * length - grain * (wait + 1)) // (grain * place) for place, _, behind in looks])
    return stretch(least, greatest)


def best_wait(shape, grain, step, length):
    """The least wait with the greatest margin of a length, None if it is safe for no wait."""
    if safe_waits(shape, grain, step, length) is None:
        return None
    # Where a wait has a margin it has each lesser one, too: so halving finds the greatest one.
    low = 0
    high = length
    while high - low > 1:
        middle = (low + high) // 2
        if _waits_for_span(shape, grain, step, length - middle, length + middle) is None:
            high = middle
        else:
            low = middle
    least, _ = _waits_for_span(shape, grain, step, length - low, length + low)
    return least


def is_safe_span(shape, receiver, low, high):
    """Whether every text is read right if each level lasts any number of ticks from low to high."""
    check_speed(shape, receiver, low)
    if not is_int_from(low, high):
        raise InvalidLength("the greatest length is an integer from the least one on")
    return _holds(shape, receiver, low, high)


def misread_paper(shape, receiver, length):
    """A paper that shows that a length is not safe, None if it is safe."""
    check_speed(shape, receiver, length)
    if _holds(shape, receiver, length, length):
        return None
    good = good_stretch(shape, receiver, length)
    # The good offsets are one stretch: if not all are good, the first or the last one is not.
    phase = 0 if good is None or good[0] > 0 else receiver[0] - 1
    return (phase, list(misread_pair(shape, receiver, length, phase)))


def shows_misread(shape, receiver, length, value):
    """Whether any value is a paper that shows that a length is not safe."""
    check_speed(shape, receiver, length)
    if not isinstance(value, tuple) or len(value) != 2:
        return False
    phase, numbers = value
    if not is_int_between(0, receiver[0] - 1, phase) or not is_list_up_to(2, numbers) or numbers == []:
        return False
    if not all([fits(shape, number) for number in numbers]):
        return False
    return is_misread(shape, receiver, length, phase, numbers)


def _length_limits(shape, receiver):
    """The lengths below and above which looks with some offset are not in their windows.

    There may be no length between them. The offset 0 tells the upper one, because its looks are
    the first to be too early; the offset grain - 1 tells the lower one.
    """
    grain, wait, step = receiver
    looks = [(first, behind, wait + step * place) for place, first, behind in windows_of(shape)]
    least = max([ceiling(grain * (grains + 1), behind) for _, behind, grains in looks])
    greatest = min([grain * grains // first for first, _, grains in looks if first > 0])
    return least, greatest


def _holds(shape, receiver, low, high):
    """Whether all looks are in their windows at all offsets if levels last from low to high ticks."""
    least, greatest = _length_limits(shape, receiver)
    return least <= low and high <= greatest


def _waits_for_span(shape, grain, step, low, high):
    """The least and the greatest wait for which all lengths from low to high are safe, or None.

    The window of the place 0, which begins with the frame, tells that no wait is below 0.
    """
    looks = [(first, behind, step * place) for place, first, behind in windows_of(shape)]
    least = max([ceiling(first * high, grain) - grains for first, _, grains in looks])
    greatest = min([behind * low // grain - 1 - grains for _, behind, grains in looks])
    return stretch(least, greatest)
