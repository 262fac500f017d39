"""Part 14: a line that is told of its levels one by one, with a receiver."""

from startbits.checks import check_phase, check_receiver, check_shape, is_int, is_level
from startbits.errors import InvalidLevel, InvalidTick, NothingToUndo
from startbits.walk import DROPPED, first_from, frames_along, readings_along, state_along

LEVEL = "level"
WAIT = "wait"


class Line:
    """A live line: all that it tells follows from the calls that are not taken back."""

    def __init__(self, shape, receiver, phase):
        check_shape(shape)
        check_receiver(receiver)
        check_phase(phase)
        self._shape = shape
        self._receiver = receiver
        self._phase = phase
        self._calls = []

    def set_level(self, level, tick):
        """Set the level of the line from a tick on."""
        if not is_level(level):
            raise InvalidLevel("a level is the integer 0 or 1")
        self._check_tick(tick)
        self._calls.append((LEVEL, level, tick))

    def wait(self, tick):
        """Tell that the level does not change up to a tick."""
        self._check_tick(tick)
        self._calls.append((WAIT, tick))

    def undo(self):
        """Take back the last call that is not taken back yet."""
        if self._calls == []:
            raise NothingToUndo("there is no call to take back")
        self._calls.pop()

    def would_be(self):
        """All readings if the present level stays for ever."""
        return readings_along(self._shape, self._receiver, self._phase, self.signal)

    def fork(self):
        """A line in the same state, which goes its own way from here."""
        other = Line(self._shape, self._receiver, self._phase)
        other._calls = list(self._calls)
        return other

    @property
    def tick(self):
        """The present tick, None without a call."""
        return None if self._calls == [] else self._calls[-1][-1]

    @property
    def level(self):
        """The present level."""
        # The level is 1 ahead of all changes, and each one turns it over.
        return 1 - len(self.signal) % 2

    @property
    def signal(self):
        """The signal of the levels so far."""
        changes = []
        told = [(call[1], call[2]) for call in self._calls if call[0] == LEVEL]
        for level, tick in told:
            if level == 1 - len(changes) % 2:
                continue
            # Two changes at one tick leave the level as it was: then there is none.
            if changes[-1:] == [tick]:
                changes.pop()
            else:
                changes.append(tick)
        return changes

    @property
    def readings(self):
        """The readings so far, those whose last look is ahead of the present tick."""
        tick = self.tick
        if tick is None:
            return []
        frames = frames_along(self._shape, self._receiver, self._phase, self.signal)
        ended = [frame for frame in frames if frame[1] < tick]
        return [(start, word, number) for start, _, word, number in ended if word != DROPPED]

    @property
    def state(self):
        """The state of the receiver behind all looks ahead of the present tick."""
        if self.tick is None:
            return ("idle", None)
        return state_along(self._shape, self._receiver, self._phase, self.signal, self.tick - 1)

    @property
    def next_look(self):
        """The tick of the next look."""
        if self.tick is None:
            return self._phase
        look = self.state[1]
        if look is not None:
            return look
        return first_from(self._receiver[0], self._phase, max(self._phase, self.tick))

    @property
    def log(self):
        """The calls that are not taken back."""
        return list(self._calls)

    def __len__(self):
        return len(self._calls)

    def __eq__(self, other):
        return (isinstance(other, Line) and self._shape == other._shape and self._receiver == other._receiver
                and self._phase == other._phase and self._calls == other._calls)

    def _check_tick(self, tick):
        """Raise InvalidTick unless any value is a tick that is not ahead of the present one."""
        if not is_int(tick):
            raise InvalidTick("a tick is an integer")
        if self._calls != [] and tick < self.tick:
            raise InvalidTick("this tick is less than the present one")
