"""Where the looks of a frame must lie: what safe lengths and good offsets have in common.

All arguments are valid. A window is a tuple (place, first, behind): the look of this place must
lie in the places from first to behind - 1. With a grain, a wait, a step and a length this says
of each offset: first * length <= offset + grain * (wait + step * place) < behind * length.
"""

from startbits.shapes import size_of


def ceiling(top, bottom):
    """The least integer that is not less than a quotient; the bottom is above 0."""
    return -(-top // bottom)


def windows_of(shape):
    """The windows of all places of a shape."""
    size = size_of(shape)
    first_stop = size - shape[2]
    # It does not matter which stop bit a stop look sees.
    stops = [(place, first_stop, size) for place in range(first_stop, size)]
    return [(place, place, place + 1) for place in range(first_stop)] + stops


def stretch(least, greatest):
    """A tuple of the ends of a stretch of integers, None if it is empty."""
    return (least, greatest) if least <= greatest else None


def good_stretch(shape, receiver, length):
    """The least and the greatest good offset from 0 to grain - 1, None if there is none."""
    grain, wait, step = receiver
    windows = [(first, behind, grain * (wait + step * place)) for place, first, behind in windows_of(shape)]
    least = max([first * length - behind_start for first, _, behind_start in windows])
    greatest = min([behind * length - 1 - behind_start for _, behind, behind_start in windows])
    return stretch(max(least, 0), min(greatest, grain - 1))
