"""The definitions of the document in the plainest words, to compare the package with."""

ALL_SHAPES = [(bits, parity, stops)
              for bits in range(1, 10) for parity in ("none", "even", "odd") for stops in (1, 2)]


def plain_frame(shape, number):
    """The frame of a number, by its digits in base two."""
    bits, parity, stops = shape
    digits = [int(digit) for digit in reversed(f"{number:0{bits}b}")]
    ones = digits.count(1)
    parity_bits = {"none": [], "even": [ones % 2], "odd": [(ones + 1) % 2]}[parity]
    return [0, *digits, *parity_bits, *([1] * stops)]


def plain_level(signal, tick):
    """The level at a tick, by walking over the changes."""
    level = 1
    for change in signal:
        if change > tick:
            break
        level = 1 - level
    return level


def changes_in(levels_by_tick, begin, end):
    """The signal of a line that is quiet but for the ticks of a dict, from begin to end - 1."""
    signal, before = [], 1
    for tick in range(begin, end):
        level = levels_by_tick.get(tick, 1)
        if level != before:
            signal.append(tick)
        before = level
    return signal


def signal_of(frames):
    """The signal of a list of frames (tick, levels, lasts), by setting each tick's level."""
    levels_by_tick = {}
    first, last = 0, 0
    for tick, levels, lasts in frames:
        first = min(first, tick)
        for level, ticks in zip(levels, lasts):
            for _ in range(ticks):
                assert tick not in levels_by_tick
                levels_by_tick[tick] = level
                tick += 1
        last = max(last, tick)
    return changes_in(levels_by_tick, first, last + 1)
