"""Part 11: the texts that a recorded line can have been.

A signal that ends at the level 1 is 0 in some runs of ticks, and each frame begins with such a
run; its stop bits are in the run of 1 behind its last one. So a number that begins with one of
these runs, counted from 0, tells at which of them the next number begins. The ways of a signal are
a list: for each run of 0 the tuples (number, behind) of the numbers that can begin with it and
lead on to the end. The end counts as one more run of 0, which has no way.
"""

from startbits.checks import check_length, check_shape, check_signal, check_text_between
from startbits.checks import is_int_between, is_int_from, is_list_up_to
from startbits.errors import Impossible, InvalidLength, InvalidNumber, InvalidSignal
from startbits.shapes import frame_of, size_of
from startbits.signals import changes_of
from startbits.windows import ceiling

MOST_CHANGES = 200
MOST_NUMBERS = 100


def is_possible(shape, low, high, signal):
    """Whether a signal can be any text."""
    return count_texts(shape, low, high, signal) > 0


def count_texts(shape, low, high, signal):
    """How many texts a signal can be."""
    _check_record(shape, low, high, signal)
    if len(signal) % 2 == 1:
        return 0
    return _counts_of(_ways_of(shape, low, high, signal))[0]


def nth_text(shape, low, high, signal, index):
    """The text with an index among all texts that a signal can be, in ascending order."""
    _check_record(shape, low, high, signal)
    ways = _possible_ways(shape, low, high, signal)
    counts = _counts_of(ways)
    if not is_int_between(0, counts[0] - 1, index):
        raise InvalidNumber("this is no index of a text")
    text = []
    at = 0
    while ways[at] != []:
        for number, behind in ways[at]:
            if index < counts[behind]:
                break
            index = index - counts[behind]
        text.append(number)
        at = behind
    return text


def text_index(shape, low, high, signal, numbers):
    """The index of a text among all texts that a signal can be, in ascending order."""
    _check_record(shape, low, high, signal)
    check_text_between(0, MOST_NUMBERS, shape, numbers)
    ways = _possible_ways(shape, low, high, signal)
    counts = _counts_of(ways)
    index = 0
    at = 0
    for wanted in numbers:
        index = index + sum([counts[behind] for number, behind in ways[at] if number < wanted])
        following = [behind for number, behind in ways[at] if number == wanted]
        if following == []:
            raise Impossible("the signal can not be this text")
        at = following[0]
    if ways[at] != []:
        raise Impossible("the signal can not be this text alone")
    return index


def fewest_numbers(shape, low, high, signal):
    """The least number of numbers of the texts that a signal can be."""
    _check_record(shape, low, high, signal)
    return _fewest_along(_possible_ways(shape, low, high, signal))


def most_numbers(shape, low, high, signal):
    """The greatest number of numbers of the texts that a signal can be."""
    _check_record(shape, low, high, signal)
    ways = _possible_ways(shape, low, high, signal)
    most = [0] * len(ways)
    for at in reversed(range(len(ways))):
        most[at] = max([1 + most[behind] for _, behind in ways[at]], default=0)
    return most[0]


def sure_numbers(shape, low, high, signal):
    """For each index below the least number of numbers the number that all texts have there, or None."""
    _check_record(shape, low, high, signal)
    ways = _possible_ways(shape, low, high, signal)
    following = [sorted(set([behind for _, behind in row])) for row in ways]
    sure = []
    places = [0]
    for _ in range(_fewest_along(ways)):
        least = min([ways[at][0][0] for at in places])
        greatest = max([ways[at][-1][0] for at in places])
        sure.append(least if least == greatest else None)
        places = sorted(set([behind for at in places for behind in following[at]]))
    return sure


def least_high(shape, low, signal):
    """The least high with which a signal can be a text, None if there is none."""
    check_shape(shape)
    check_length(low)
    _check_short_signal(signal)
    if len(signal) % 2 == 1:
        return None
    lasts = _lasts_of(signal)
    runs = _runs_of(shape)
    # The least high from each run of 0 on, None if there is none.
    found = [None] * (len(signal) // 2) + [low]
    for at in reversed(range(len(signal) // 2)):
        needs = [_needed_high(low, lasts, found, at, parts) for parts in runs]
        found[at] = min([need for need in needs if need is not None], default=None)
    return found[0]


def _check_record(shape, low, high, signal):
    """Raise the error of the first of these values that is none of its kind."""
    check_shape(shape)
    check_length(low)
    if not is_int_from(low, high):
        raise InvalidLength("the greatest length is an integer from the least one on")
    _check_short_signal(signal)


def _check_short_signal(signal):
    """Raise InvalidSignal unless any value is a signal of at most 200 changes."""
    if not is_list_up_to(MOST_CHANGES, signal):
        raise InvalidSignal(None)
    check_signal(signal)


def _possible_ways(shape, low, high, signal):
    """The ways of a signal; raise Impossible if it can be no text."""
    if len(signal) % 2 == 1:
        raise Impossible("the signal ends at the level 0")
    ways = _ways_of(shape, low, high, signal)
    if signal != [] and ways[0] == []:
        raise Impossible("the signal can be no text")
    return ways


def _runs_of(shape):
    """For each number of a shape how many levels each run of its frame has."""
    # With the start bit of a next frame behind it a frame ends with a change, too.
    lasts = [1] * (size_of(shape) + 1)
    places = [changes_of(frame_of(shape, number) + [0], 0, lasts) for number in range(1 << shape[0])]
    return [_lasts_of(row) for row in places]


def _lasts_of(signal):
    """How many ticks each run of a signal lasts, but for the last one, which lasts for ever."""
    return [behind - ahead for ahead, behind in zip(signal, signal[1:])]


def _needed_high(low, lasts, found, at, parts):
    """The least high if a number with these runs of levels begins with a run of 0, None if there is none."""
    behind = at + len(parts) // 2
    if behind >= len(found) or found[behind] is None:
        return None
    ticks = lasts[2 * at:2 * behind]
    # The last run of the frame may last longer, because the line is quiet behind it; behind the
    # last frame it is so for ever.
    if any([many < part * low for many, part in zip(ticks, parts)]):
        return None
    return max([found[behind]] + [ceiling(many, part) for many, part in zip(ticks, parts[:-1])])


def _ways_of(shape, low, high, signal):
    """The ways of a signal that ends at the level 1."""
    # How many levels each run can have at the least and at the most.
    limits = [(ceiling(ticks, high), ticks // low) for ticks in _lasts_of(signal)]
    runs = _runs_of(shape)
    end = len(signal) // 2
    ways = [[] for _ in range(end + 1)]
    for at in reversed(range(end)):
        for number, parts in enumerate(runs):
            behind = at + len(parts) // 2
            if behind <= end and (behind == end or ways[behind] != []) and _fits(limits, 2 * at, parts):
                ways[at].append((number, behind))
    return ways


def _fits(limits, begin, parts):
    """Whether the runs from one on can have these numbers of levels: those of one frame."""
    last = begin + len(parts) - 1
    for at in range(begin, last):
        least, most = limits[at]
        if not least <= parts[at - begin] <= most:
            return False
    # The last run of the frame may last longer, because the line is quiet behind it.
    return last == len(limits) or parts[-1] <= limits[last][1]


def _counts_of(ways):
    """How many texts lead from each run of 0 on to the end."""
    counts = [0] * (len(ways) - 1) + [1]
    for at in reversed(range(len(ways) - 1)):
        counts[at] = sum([counts[behind] for _, behind in ways[at]])
    return counts


def _fewest_along(ways):
    """The least number of numbers of the texts of a signal that can be one."""
    fewest = [0] * len(ways)
    for at in reversed(range(len(ways) - 1)):
        fewest[at] = 1 + min([fewest[behind] for _, behind in ways[at]], default=0)
    return fewest[0]
