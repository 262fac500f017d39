"""The definitions of the document in the plainest words, to compare the package with."""

ALL_SHAPES = [(bits, parity, stops)
              for bits in range(1, 10) for parity in ("none", "even", "odd") for stops in (1, 2)]


def plain_frame(shape, number):
    """The frame of a number, by its digits in base two."""
    bits, parity, stops = shape
    digits = [int(digit) for digit in reversed(f"{number:0{bits}b}")]
    ones = digits.count(1)
    parity_bits = {"none": [], "even": [ones % 2], "odd": [(ones + 1) % 2]}[parity]
    return [0, *digits, *parity_bits, *([1] * stops)]


def plain_level(signal, tick):
    """The level at a tick, by walking over the changes."""
    level = 1
    for change in signal:
        if change > tick:
            break
        level = 1 - level
    return level


def changes_in(levels_by_tick, begin, end):
    """The signal of a line that is quiet but for the ticks of a dict, from begin to end - 1."""
    signal, before = [], 1
    for tick in range(begin, end):
        level = levels_by_tick.get(tick, 1)
        if level != before:
            signal.append(tick)
        before = level
    return signal


def signal_of(frames):
    """The signal of a list of frames (tick, levels, lasts), by setting each tick's level."""
    levels_by_tick = {}
    first, last = 0, 0
    for tick, levels, lasts in frames:
        first = min(first, tick)
        for level, ticks in zip(levels, lasts):
            for _ in range(ticks):
                assert tick not in levels_by_tick
                levels_by_tick[tick] = level
                tick += 1
        last = max(last, tick)
    return changes_in(levels_by_tick, first, last + 1)


class PlainReceiver:
    """A receiver that is told of each look, one by one, as point 8 says it."""

    def __init__(self, shape, receiver):
        self.shape = shape
        self.wait, self.step = receiver[1:]
        self.places = len(plain_frame(shape, 0))
        self.readings = []
        self.state = "idle"
        self.start = self.at = None
        self.seen = []

    def look(self, tick, level):
        """One look of the clock of the receiver: it need not look at the line then."""
        if self.state == "waiting":
            self.state = "idle" if level == 1 else "waiting"
            return
        if self.state == "idle":
            if level == 1:
                return
            self.state, self.start, self.at, self.seen = "frame", tick, 0, []
        else:
            self.at += 1
        if self.at == self.wait + self.step * len(self.seen):
            self.seen.append(level)
            self.judge()

    def judge(self):
        """What the last look of the frame decides."""
        bits, parity, stops = self.shape
        place, level = len(self.seen) - 1, self.seen[-1]
        if place == 0 and level == 1:
            self.state = "idle"
        number = sum(2 ** at for at, bit in enumerate(self.seen[1:bits + 1]) if bit == 1)
        if place >= self.places - stops and level == 0:
            word = "frame" if 1 in self.seen else "break"
            self.readings.append((self.start, word, number if word == "frame" else 0))
            self.state = "waiting"
        elif place == self.places - 1:
            is_good = parity == "none" or self.seen[bits + 1] == plain_frame(self.shape, number)[bits + 1]
            self.readings.append((self.start, "good" if is_good else "parity", number))
            self.state = "idle"


def plain_horizon(shape, receiver, phase, signal):
    """A tick behind all readings, and behind all changes of the state but of one that is waiting."""
    grain, wait, step = receiver
    frame_ticks = grain * (wait + step * len(plain_frame(shape, 0)) + 1)
    return max([phase] + signal) + 2 * frame_ticks


def plain_readings(shape, receiver, phase, signal):
    """All readings, look by look."""
    line = PlainReceiver(shape, receiver)
    for tick in range(phase, plain_horizon(shape, receiver, phase, signal), receiver[0]):
        line.look(tick, plain_level(signal, tick))
    return line.readings


def plain_parsed(shape, levels, begin):
    """The readings of a list of levels, look by look."""
    line = PlainReceiver(shape, (1, 0, 1))
    for index in range(begin, len(levels) + 20):
        line.look(index, levels[index] if index < len(levels) else 1)
    return line.readings


def plain_is_right(shape, receiver, phase, signal, numbers):
    """Whether a signal is read right as a text, look by look."""
    found = plain_readings(shape, receiver, phase, signal)
    return [reading[1:] for reading in found] == [("good", number) for number in numbers]


def plain_offset_is_good(shape, receiver, length, offset):
    """Whether an offset is good, by the words of point 9."""
    grain, wait, step = receiver
    stops = shape[2]
    size = len(plain_frame(shape, 0))
    if not offset + grain * wait < length:
        return False
    for place in range(1, size):
        tick = offset + grain * (wait + step * place)
        if place < size - stops:
            if not place * length <= tick <= (place + 1) * length - 1:
                return False
        elif not (size - stops) * length <= tick <= size * length - 1:
            return False
    return True


def stretches_in(integers):
    """The stretches (least, greatest) of ascending integers."""
    found = []
    for value in integers:
        if found and found[-1][1] == value - 1:
            found[-1] = (found[-1][0], value)
        else:
            found.append((value, value))
    return found
