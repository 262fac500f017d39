"""Part 8: levels without ticks, at each of which a receiver looks once."""

from startbits.checks import check_shape, check_text, is_int_between, is_level, is_list_up_to
from startbits.errors import InvalidLevels, InvalidPlace, InvalidTick
from startbits.places import place_after_all
from startbits.shapes import frame_of, size_of
from startbits.signals import changes_of
from startbits.walk import readings_along

MOST_LEVELS = 800
ONE_BY_ONE = (1, 0, 1)


def parsed(shape, levels, begin):
    """The readings of a list of levels from an index on, at which the receiver is idle."""
    check_shape(shape)
    _check_levels(levels)
    if not is_int_between(0, len(levels), begin):
        raise InvalidTick("the begin is an index of the list, or its length")
    # Behind the list the line is quiet.
    signal = changes_of(levels + [1], 0, [1] * (len(levels) + 1))
    return readings_along(shape, ONE_BY_ONE, begin, signal)


def places_along(shape, place, numbers):
    """The place ahead of a text without gaps, and the place behind each of its numbers."""
    check_shape(shape)
    if not is_int_between(0, size_of(shape) - 1, place):
        raise InvalidPlace("a place is an integer from 0 to the size minus 1")
    check_text(shape, numbers)
    places = [place]
    for number in numbers:
        places.append(place_after_all(shape, places[-1], frame_of(shape, number)))
    return places


def place_behind(shape, place, numbers):
    """The place behind a text without gaps."""
    return places_along(shape, place, numbers)[-1]


def _check_levels(levels):
    """Raise InvalidLevels unless any value is a list of levels."""
    if not is_list_up_to(MOST_LEVELS, levels):
        raise InvalidLevels(None)
    for index, level in enumerate(levels):
        if not is_level(level):
            raise InvalidLevels(index)
