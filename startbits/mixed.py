"""Part 10: two ends of a line with unlike shapes.

All looks are without ticks. A state, behind some numbers of a text of which all readings so far
are good, is a tuple (place, seen, owed, ahead): the place of the receiver in its frame, the bits of
this frame so far as a number, the numbers that are sent but not yet read, and those that are read
but not yet sent. Both of these are None if what is read is not the text, however it goes on.
"""

from startbits.bits import parsed
from startbits.checks import check_shape
from startbits.places import WAITING, place_after
from startbits.shapes import frame_of, levels_of, parity_of, size_of

MOST_SILENT = 4


def read_by(shape, other, numbers):
    """What a receiver with the other shape reads of a text without gaps."""
    check_shape(shape)
    check_shape(other)
    # This checks the text, too.
    levels = levels_of(shape, numbers)
    return parsed(other, levels, 0)


def is_read_by(shape, other):
    """Whether a receiver with the other shape reads every text right."""
    return wrong_text(shape, other) is None


def wrong_text(shape, other):
    """The least of the shortest texts that are not read right by the other shape, None if there is none."""
    check_shape(shape)
    check_shape(other)
    for number in range(1 << shape[0]):
        if not _is_right(shape, other, [number]):
            return [number]
    # All numbers alone are read right. If the frames of the receiver are not longer, it is idle
    # ahead of each further number, too. If they are longer, it sees the next start bit where it saw
    # 1 behind a number alone, and so reads another number, or one that is not good.
    return [0, 0] if size_of(other) > size_of(shape) else None


def silent_text(shape, other):
    """The least of the shortest texts of 1 to 4 numbers that are not read right, all readings good, or None."""
    check_shape(shape)
    check_shape(other)
    frames = [frame_of(shape, number) for number in range(1 << shape[0])]
    # The texts of a round are in ascending order: so of those that lead to the same state the first
    # one is the least, and the others need not go on.
    texts = [([], (0, 0, (), ()))]
    known = {}
    for _ in range(MOST_SILENT):
        longer = []
        for text, state in texts:
            for number, levels in enumerate(frames):
                behind = _state_behind(other, state, (number,), levels)
                if behind is None or behind in known:
                    continue
                if _ends_unlike(other, behind):
                    return text + [number]
                known[behind] = True
                longer.append((text + [number], behind))
        texts = longer
    return None


def _is_right(shape, other, numbers):
    """Whether a text is read right by the other shape."""
    found = [(word, number) for _, word, number in read_by(shape, other, numbers)]
    return found == [("good", number) for number in numbers]


def _state_behind(other, state, sent, levels):
    """The state behind some more numbers with these levels, None if a reading is not good."""
    place, seen, owed, ahead = state
    read = []
    for level in levels:
        is_good, behind = _place_behind(other, place, seen, level)
        if not is_good:
            return None
        if 0 < place <= other[0]:
            seen = seen | level << place - 1
        if place > 0 and behind == 0:
            read.append(seen)
            seen = 0
        place = behind
    if owed is None:
        return (place, seen, None, None)
    owed = owed + sent
    ahead = ahead + tuple(read)
    both = min(len(owed), len(ahead))
    if owed[:both] != ahead[:both]:
        return (place, seen, None, None)
    return (place, seen, owed[both:], ahead[both:])


def _place_behind(other, place, seen, level):
    """Whether a frame can still be good behind one more level, and the place behind it."""
    behind = place_after(other, place, level)
    if place == other[0] + 1 and parity_of(other, seen) == 1 - level:
        return False, behind
    return behind != WAITING, behind


def _ends_unlike(other, state):
    """Whether the last reading is good, if the text ends here, and the text is not what is read."""
    ended = _state_behind(other, state, (), [1] * size_of(other))
    return ended is not None and ended[2:] != ((), ())
