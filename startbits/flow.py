"""Part 13: signs to stop and to go on that the sender hears late."""

from startbits.checks import check_int_from, is_int_between, is_int_from, is_list_up_to
from startbits.errors import InvalidFlow, InvalidLength, InvalidNumber, InvalidTakes
from startbits.shapes import size_of
from startbits.speeds import is_safe

MOST_NUMBERS = 60
MOST_TAKES = 60
GO = "go"
STOP = "stop"


class Run:
    """A flow that goes on from tick to tick at which something happens."""

    def __init__(self, flow, size, many, takes):
        self.frame, self.delay, self.lag, self.low, self.high = flow
        self.size = size
        self.left = many
        self.takes = list(takes)
        self.puts = []
        # The signs on their way, as tuples (tick, sign). Without any sign all is as behind the sign to go.
        self.signs = []
        self.given = GO
        self.heard = GO
        self.free_from = 0
        self.held = 0
        self.events = []

    def next_tick(self):
        """The next tick at which something happens, None if nothing does any more."""
        ticks = self.puts[:1] + self.takes[:1] + [tick for tick, _ in self.signs[:1]]
        if self.left > 0 and self.heard == GO:
            ticks.append(self.free_from)
        return min(ticks, default=None)

    def go_on(self, tick):
        """Do all that happens at a tick."""
        while self.signs != [] and self.signs[0][0] == tick:
            _, self.heard = self.signs.pop(0)
        if self.left > 0 and self.heard == GO and self.free_from <= tick:
            self.begin_number(tick)
        if self.puts[:1] == [tick]:
            self.puts.pop(0)
            self.put_number(tick)
        while self.takes[:1] == [tick]:
            self.takes.pop(0)
            self.take_number(tick)

    def begin_number(self, tick):
        """The sender begins a number."""
        self.events.append((tick, "begin"))
        self.left = self.left - 1
        self.free_from = tick + self.frame
        self.puts.append(tick + self.delay)

    def put_number(self, tick):
        """A number is put into the buffer, or lost."""
        if self.held == self.size:
            self.events.append((tick, "lost"))
        else:
            self.held = self.held + 1
            self.events.append((tick, "put"))
        if self.held >= self.high and self.given == GO:
            self.give_sign(tick, STOP)

    def take_number(self, tick):
        """A number is taken out of the buffer, if there is one."""
        if self.held == 0:
            self.events.append((tick, "empty"))
        else:
            self.held = self.held - 1
            self.events.append((tick, "take"))
        if self.held <= self.low and self.given == STOP:
            self.give_sign(tick, GO)

    def give_sign(self, tick, sign):
        """The receiver gives a sign, which is heard later."""
        self.given = sign
        self.events.append((tick, sign))
        self.signs.append((tick + self.lag, sign))


def run_flow(flow, size, many, takes):
    """All that happens in a flow, as tuples (tick, word)."""
    _check_flow(flow)
    check_int_from(1, size)
    if not is_int_between(0, MOST_NUMBERS, many):
        raise InvalidNumber("this is no integer from 0 to 60")
    _check_takes(takes)
    run = Run(flow, size, many, takes)
    tick = run.next_tick()
    while tick is not None:
        run.go_on(tick)
        tick = run.next_tick()
    return run.events


def lost_in(flow, size, many, takes):
    """How many numbers are lost in a flow."""
    return len([word for _, word in run_flow(flow, size, many, takes) if word == "lost"])


def most_waiting(flow):
    """The greatest number of numbers that a buffer without a bound can hold."""
    _check_flow(flow)
    frame, delay, lag, _, high = flow
    # The number that fills the buffer up to high began delay ticks ago, and the sender hears the
    # sign to stop lag ticks later: further numbers can begin ahead of that tick, each frame ticks.
    return high + (delay + lag - 1) // frame


def least_low(flow, every):
    """How many numbers must be left at the sign to go so that takes at a distance never find none."""
    _check_flow(flow)
    frame, delay, lag, _, _ = flow
    if not is_int_from(frame, every):
        raise InvalidNumber("takes are at least a frame apart")
    return (lag + delay - 1) // every


def worst_delay(shape, receiver, length):
    """The greatest number of ticks from the begin of a frame to its last look, for a safe length."""
    if not is_safe(shape, receiver, length):
        raise InvalidLength("this length is not safe")
    grain, wait, step = receiver
    return grain - 1 + grain * (wait + step * (size_of(shape) - 1))


def _check_flow(flow):
    """Raise InvalidFlow unless any value is a flow."""
    if not isinstance(flow, tuple) or len(flow) != 5:
        raise InvalidFlow(None)
    for index, least in enumerate([1, 1, 1, 0]):
        if not is_int_from(least, flow[index]):
            raise InvalidFlow(index)
    if not is_int_from(flow[3] + 1, flow[4]):
        raise InvalidFlow(4)


def _check_takes(takes):
    """Raise InvalidTakes unless any value is a list of takes."""
    if not is_list_up_to(MOST_TAKES, takes):
        raise InvalidTakes(None)
    for index, tick in enumerate(takes):
        if not is_int_from(0, tick):
            raise InvalidTakes(index)
        if index > 0 and tick < takes[index - 1]:
            raise InvalidTakes(index)
