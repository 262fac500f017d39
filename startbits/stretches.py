"""At which lengths a text is read as given numbers, without going from length to length.

All arguments are valid. The text is sent without gaps from tick 0, and the phase is from 0 to
grain - 1. The level changes at some places of the text, to 0 and back to 1 by turns; the tick of
a change is its place times the length. While a receiver is idle, it only matters which change to
0 comes next: so its state is the index of this change and the number of its readings so far. For
each state the lengths that lead to it are kept, as stretches (least, greatest).

A line is a tuple (places, grain, phase, distances): the places of the changes, and how many ticks
each look of a frame lies behind the start look.
"""

from startbits.shapes import frame_of
from startbits.signals import changes_of
from startbits.walk import changes_up_to, first_from, frame_looks


def lengths_reading(shape, receiver, phase, levels, numbers):
    """The stretches of all lengths at which the levels of a text are read as these numbers."""
    distances = frame_looks(shape, receiver, 0)
    places = changes_of(levels, 0, [1] * len(levels))
    line = (places, receiver[0], phase, distances)
    # Behind the last number no frame is wanted any more.
    wanted = [frame_of(shape, number) for number in numbers] + [[]]
    # At lengths above the first stretch all looks of the first frame see 0.
    found = {(0, 0): [(1, phase + distances[-1])]}
    last = len(places)
    for at in range(0, last, 2):
        for done, frame in enumerate(wanted):
            stretches = _not_below(_least_length(line, at, len(numbers) - done), found.get((at, done), []))
            for behind, is_read, least, greatest in _pieces(line, at, frame, stretches):
                state = (behind, done + is_read)
                found[state] = found.get(state, []) + [(least, greatest)]
    return _joined(found.get((last, len(numbers)), []))


def cut_at(most, stretches):
    """What stretches hold up to a length."""
    return [(least, min(greatest, most)) for least, greatest in stretches if least <= most]


def _joined(stretches):
    """Stretches in ascending order, those without a length between them as one."""
    found = []
    for least, greatest in sorted(stretches):
        if found and found[-1][1] + 1 == least:
            found[-1] = (found[-1][0], greatest)
        else:
            found.append((least, greatest))
    return found


def _not_below(least, stretches):
    """What stretches hold from a length on, joined."""
    return [(max(low, least), high) for low, high in _joined(stretches) if high >= least]


def _least_length(line, at, many):
    """A length below which so many readings do not begin from a change to 0 on."""
    places, grain, _, distances = line
    # The last change to 1 is behind the last start look.
    ticks = max(many - 1, 0) * (distances[-1] + grain)
    return ticks // (places[-1] - places[at]) + 1


def _pieces(line, at, frame, stretches):
    """Where all lengths of some stretches lead that lead anywhere: tuples (behind, is_read, least, greatest)."""
    pieces = []
    for least, greatest in stretches:
        length = least
        while length <= greatest:
            behind, is_read, seen = _seen_at(line, at, frame, length)
            same = min(_same_up_to(line, at, length, seen, greatest), greatest)
            if behind is not None:
                pieces.append((behind, is_read, length, same))
            length = same + 1
    return pieces


def _seen_at(line, at, frame, length):
    """What comes of a change to 0 at one length: a tuple (behind, is_read, seen).

    Behind is the index of the change to 0 that comes next when the receiver is idle again, None if
    there is a reading that is not wanted; is_read is 1 if the frame is read, otherwise 0. Seen are
    the looks that decide this: how far they lie behind the start look, and how many changes are
    not behind them.
    """
    places, grain, phase, distances = line
    signal = [place * length for place in places]
    start = first_from(grain, phase, signal[at])
    passed = changes_up_to(signal, start)
    seen = [(0, passed)]
    if passed % 2 == 0:
        return passed, 0, seen
    for place, distance in enumerate(distances):
        passed = changes_up_to(signal, start + distance)
        seen.append((distance, passed))
        if place == 0 and passed % 2 == 0:
            return passed, 0, seen
        # The level is 1 behind an even number of changes, so here it is not the one of the frame.
        if frame == [] or frame[place] == passed % 2:
            return None, 0, seen
    return passed, 1, seen


def _same_up_to(line, at, length, seen, most):
    """A length up to which, from this one on, the looks that were seen pass the same changes."""
    places, grain, phase, _ = line
    begin = places[at]
    start = first_from(grain, phase, begin * length)
    # If the start look stays at its tick, so do the others, and changes ahead of them come nearer.
    limits = [(start + distance) // places[passed - 1] for distance, passed in seen if places[passed - 1] > 0]
    staying = min(limits, default=most)
    for distance, passed in seen:
        if passed < len(places) and begin * length + distance + grain > places[passed] * length:
            return staying
    # Wherever the start look is in its grain, no look passes more changes; up to here none passes less.
    limits = [distance // (places[passed - 1] - begin) for distance, passed in seen if places[passed - 1] > begin]
    return max(staying, min(limits, default=most))
