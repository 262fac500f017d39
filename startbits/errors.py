"""The errors of the package, each one a direct subclass of LineError."""


class LineError(ValueError):
    """The base of all errors."""


class InvalidNumber(LineError):
    """A number, a factor or a count is none that may stand there."""


class InvalidTick(LineError):
    """A tick is no integer, or not one that may stand there."""


class InvalidPhase(LineError):
    """A phase is no integer, or not one that may stand there."""


class InvalidLength(LineError):
    """A length is no integer from 1 on, or not one that may stand there."""


class InvalidLevel(LineError):
    """A level is not the integer 0 or 1."""


class InvalidPlace(LineError):
    """A place is none of the shape."""


class Impossible(LineError):
    """A signal can be no text, or not the text that was told."""


class NothingToUndo(LineError):
    """There is no call that could be taken back."""


class InvalidCommand(LineError):
    """A command has none of the forms."""


class InvalidShape(LineError):
    """A shape has a wrong item, or is no tuple of three."""

    def __init__(self, index):
        super().__init__(f"wrong item of a shape: {index}")
        self.index = index


class InvalidReceiver(LineError):
    """A receiver has a wrong item, or is no tuple of three."""

    def __init__(self, index):
        super().__init__(f"wrong item of a receiver: {index}")
        self.index = index


class InvalidSignal(LineError):
    """A signal has a wrong tick, or is no list of so few."""

    def __init__(self, index):
        super().__init__(f"wrong tick of a signal: {index}")
        self.index = index


class InvalidSending(LineError):
    """A sending has a wrong item, or is no list of so few."""

    def __init__(self, index):
        super().__init__(f"wrong item of a sending: {index}")
        self.index = index


class InvalidText(LineError):
    """A text has a wrong number, or is no list of so many."""

    def __init__(self, index):
        super().__init__(f"wrong number of a text: {index}")
        self.index = index


class InvalidLevels(LineError):
    """A list of levels has a wrong level, or is no list of so few."""

    def __init__(self, index):
        super().__init__(f"wrong level of a list: {index}")
        self.index = index


class InvalidLengths(LineError):
    """A list of lengths has a wrong length, or is no list of so many."""

    def __init__(self, index):
        super().__init__(f"wrong length of a list: {index}")
        self.index = index


class InvalidFlow(LineError):
    """A flow has a wrong item, or is no tuple of five."""

    def __init__(self, index):
        super().__init__(f"wrong item of a flow: {index}")
        self.index = index


class InvalidTakes(LineError):
    """A list of takes has a wrong tick, or is no list of so few."""

    def __init__(self, index):
        super().__init__(f"wrong tick of the takes: {index}")
        self.index = index


class TooLarge(LineError):
    """A result would have more items than the limit tells."""

    def __init__(self, limit):
        super().__init__(f"a result of more than {limit} items")
        self.limit = limit


class InvalidSyntax(LineError):
    """A text of words has a wrong word, or is no string."""

    def __init__(self, word):
        super().__init__(f"wrong word: {word}")
        self.word = word
