"""How a receiver goes along a signal: from frame to frame, over any number of ticks at once.

All arguments are valid. A frame is a tuple (start, end, word, number): the ticks of its start
look and of its last look, the word of its reading or DROPPED, and the number that was seen.
"""

from startbits.shapes import parity_of, size_of

DROPPED = "dropped"
# Behind a frame that ends with one of these words the receiver is waiting.
BAD_STOPS = ("break", "frame")


def changes_up_to(signal, tick):
    """How many changes of a signal are not behind a tick."""
    low = 0
    high = len(signal)
    while low < high:
        middle = (low + high) // 2
        if signal[middle] <= tick:
            low = middle + 1
        else:
            high = middle
    return low


def first_from(grain, look, tick):
    """The first tick, not less than a tick, that is any number of grains away from a look."""
    return tick + (look - tick) % grain


def first_seeing(level, grain, signal, look):
    """The first look, from a look on, that sees a level, None if there is none."""
    passed = changes_up_to(signal, look)
    # The level is 1 ahead of all changes, and each one turns it over.
    while 1 - passed % 2 != level:
        if passed == len(signal):
            return None
        look = first_from(grain, look, signal[passed])
        passed = changes_up_to(signal, look)
    return look


def frame_looks(shape, receiver, start):
    """The ticks of the looks of a frame with a start look."""
    grain, wait, step = receiver
    return [start + grain * (wait + step * place) for place in range(size_of(shape))]


def frame_from(shape, receiver, signal, start):
    """The frame with a start look."""
    looks = frame_looks(shape, receiver, start)
    levels = [1 - changes_up_to(signal, look) % 2 for look in looks]
    if levels[0] == 1:
        return (start, looks[0], DROPPED, 0)
    number = sum([level << at for at, level in enumerate(levels[1:1 + shape[0]])])
    first_stop = len(levels) - shape[2]
    for at in range(first_stop, len(levels)):
        if levels[at] == 0:
            word = "frame" if 1 in levels[:at] else "break"
            return (start, looks[at], word, number)
    parity_bit = parity_of(shape, number)
    is_good = parity_bit is None or levels[first_stop - 1] == parity_bit
    return (start, looks[-1], "good" if is_good else "parity", number)


def idle_from(receiver, signal, frame):
    """The look from which on the receiver is idle again behind a frame, None if there is none."""
    _, end, word, _ = frame
    grain = receiver[0]
    if word not in BAD_STOPS:
        return end + grain
    quiet = first_seeing(1, grain, signal, end + grain)
    return None if quiet is None else quiet + grain


def frames_along(shape, receiver, phase, signal):
    """All frames of a receiver with a phase, in their sequence, those that it drops too."""
    grain = receiver[0]
    frames = []
    look = phase
    while look is not None:
        start = first_seeing(0, grain, signal, look)
        if start is None:
            break
        frame = frame_from(shape, receiver, signal, start)
        frames.append(frame)
        look = idle_from(receiver, signal, frame)
    return frames


def readings_along(shape, receiver, phase, signal):
    """All readings of a receiver with a phase, in their sequence."""
    frames = frames_along(shape, receiver, phase, signal)
    return [(start, word, number) for start, _, word, number in frames if word != DROPPED]


def reads(shape, receiver, phase, signal, numbers):
    """Whether all readings of a receiver with a phase are good, and their numbers a text."""
    found = readings_along(shape, receiver, phase, signal)
    return all([word == "good" for _, word, _ in found]) and [number for _, _, number in found] == numbers


def state_along(shape, receiver, phase, signal, tick):
    """The state of a receiver behind all its looks up to a tick, this tick included."""
    frames = frames_along(shape, receiver, phase, signal)
    begun = [frame for frame in frames if frame[0] <= tick]
    if not begun:
        return ("idle", None)
    start, end, _, _ = begun[-1]
    if tick < end:
        coming = [look for look in frame_looks(shape, receiver, start) if look > tick]
        return ("frame", coming[0])
    free = idle_from(receiver, signal, begun[-1])
    # The look ahead of this one ends the frame, or the time in which the receiver is waiting.
    if free is None or tick < free - receiver[0]:
        return ("waiting", None)
    return ("idle", None)
