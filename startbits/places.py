"""Where a receiver is in a frame that looks at each level once.

All arguments are valid. A place is the number of looks of the frame that are done, 0 if the
receiver is idle, or WAITING.
"""

from startbits.shapes import size_of

WAITING = -1


def place_after(shape, place, level):
    """The place behind one more level."""
    if place == WAITING:
        return 0 if level == 1 else WAITING
    if place == 0:
        return 0 if level == 1 else 1
    size = size_of(shape)
    if level == 0 and place >= size - shape[2]:
        return WAITING
    return (place + 1) % size


def place_after_all(shape, place, levels):
    """The place behind a list of levels."""
    for level in levels:
        place = place_after(shape, place, level)
    return place
