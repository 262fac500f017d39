"""Part 2: signals, those of sendings and texts, and signals made of others."""

from startbits.checks import MOST_CHANGES, MOST_NUMBERS, fits, is_int, is_int_from, is_list_up_to
from startbits.checks import check_length, check_shape, check_signal, check_text, check_tick
from startbits.errors import InvalidLengths, InvalidNumber, InvalidSending
from startbits.errors import InvalidSignal, InvalidTick, TooLarge
from startbits.shapes import frame_of, levels_of, size_of


def is_signal(value):
    """Whether any value is a signal."""
    try:
        check_signal(value)
    except InvalidSignal:
        return False
    return True


def level_at(signal, tick):
    """The level at a tick."""
    check_signal(signal)
    check_tick(tick)
    changes = [change for change in signal if change <= tick]
    # The level is 1 ahead of all changes, and each one turns it over.
    return 1 - len(changes) % 2


def runs_between(signal, begin, end):
    """The levels from begin to end - 1, as tuples (level, ticks)."""
    check_signal(signal)
    check_tick(begin)
    check_tick(end)
    if end <= begin:
        raise InvalidTick("the end is not greater than the begin")
    level = level_at(signal, begin)
    edges = [change for change in signal if begin < change < end] + [end]
    runs = []
    behind = begin
    for edge in edges:
        runs.append((level, edge - behind))
        level = 1 - level
        behind = edge
    return runs


def sent(shape, length, sending):
    """The signal of a sending."""
    check_shape(shape)
    check_length(length)
    _check_sending(shape, length, sending)
    lasts = [length] * size_of(shape)
    signal = []
    for tick, number in sending:
        signal.extend(changes_of(frame_of(shape, number), tick, lasts))
    return signal


def sent_text(shape, length, numbers, begin):
    """The signal of a text that is sent without gaps from the tick begin."""
    check_shape(shape)
    check_length(length)
    check_text(shape, numbers)
    check_tick(begin)
    levels = levels_of(shape, numbers)
    return changes_of(levels, begin, [length] * len(levels))


def sent_unevenly(shape, numbers, begin, lasts):
    """The signal of a text without gaps whose levels last a length of their own each."""
    check_shape(shape)
    check_text(shape, numbers)
    check_tick(begin)
    levels = levels_of(shape, numbers)
    _check_lasts(len(levels), lasts)
    return changes_of(levels, begin, lasts)


def moved(signal, by):
    """The signal with by added to each tick."""
    check_signal(signal)
    if not is_int(by):
        raise InvalidNumber("a signal is moved by an integer")
    return [tick + by for tick in signal]


def multiplied(signal, by):
    """The signal with each tick multiplied by an integer from 1 on."""
    check_signal(signal)
    if not is_int_from(1, by):
        raise InvalidNumber("a signal is multiplied by an integer from 1 on")
    return [tick * by for tick in signal]


def together(one, other):
    """The signal of a line that is 0 where at least one of two signals is."""
    check_signal(one)
    check_signal(other)
    turns = sorted([(tick, 0) for tick in one] + [(tick, 1) for tick in other])
    levels = [1, 1]
    signal = []
    for tick, at in turns:
        before = min(levels)
        levels[at] = 1 - levels[at]
        if min(levels) != before:
            _turn_over(signal, tick)
    if len(signal) > MOST_CHANGES:
        raise TooLarge(MOST_CHANGES)
    return signal


def changes_of(levels, begin, lasts):
    """The ticks at which levels that begin on a quiet line differ from the one before."""
    changes = []
    before = 1
    tick = begin
    for level, ticks in zip(levels, lasts):
        if level != before:
            changes.append(tick)
        before = level
        tick = tick + ticks
    return changes


def _turn_over(signal, tick):
    """Turn the level over from a tick on that is not ahead of the last change."""
    # Two changes at one tick leave the level as it was: then there is none.
    if signal and signal[-1] == tick:
        signal.pop()
    else:
        signal.append(tick)


def _check_sending(shape, length, sending):
    """Raise InvalidSending unless any value is a sending of a valid shape and length."""
    if not is_list_up_to(MOST_NUMBERS, sending):
        raise InvalidSending(None)
    frame_ticks = size_of(shape) * length
    for index, item in enumerate(sending):
        if not _is_begin(shape, item):
            raise InvalidSending(index)
        if index > 0 and item[0] - sending[index - 1][0] < frame_ticks:
            raise InvalidSending(index)


def _is_begin(shape, item):
    """Whether any value is a tuple (tick, number) of a valid shape."""
    if not isinstance(item, tuple) or len(item) != 2:
        return False
    tick, number = item
    return is_int(tick) and fits(shape, number)


def _check_lasts(many, lasts):
    """Raise InvalidLengths unless any value is a list of just so many lengths."""
    if not isinstance(lasts, list) or len(lasts) != many:
        raise InvalidLengths(None)
    for index, ticks in enumerate(lasts):
        if not is_int_from(1, ticks):
            raise InvalidLengths(index)
