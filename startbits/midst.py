"""Part 9: receivers that begin in the midst of a text, out of step.

A state is a tuple (place, ones) ahead of a number, as in point 31. The ways of allowed numbers
are a dict: for each state the tuples (number, behind) of the numbers that pass in silence from
it, each with the state behind it.
"""

from startbits.checks import check_shape, check_text_between, fits, is_int_between, is_list_up_to
from startbits.errors import InvalidNumber, InvalidText
from startbits.places import WAITING, place_after, place_after_all
from startbits.shapes import frame_of, levels_of, size_of

MOST_ALLOWED = 20
MOST_REPEATED = 8
MOST_SILENT = 60


def step_text(shape, numbers):
    """The least of the shortest texts of allowed numbers behind which every receiver is in step, or None."""
    check_shape(shape)
    _check_allowed(shape, numbers)
    moves = [(number, _places_behind(shape, [number])) for number in sorted(numbers)]
    # The texts of a round are in ascending order: so of those that lead to the same places the
    # first one is the least, and the others need not go on.
    texts = [(list(range(size_of(shape))), [])]
    known = {}
    while texts:
        longer = []
        for places, text in texts:
            for number, behind in moves:
                left = sorted(set([behind[place] for place in places]))
                if left == [0]:
                    return text + [number]
                if tuple(left) not in known:
                    known[tuple(left)] = True
                    longer.append((left, text + [number]))
        texts = longer
    return None


def lasting_places(shape, numbers):
    """The places from which a receiver is never in step if a text is sent again and again."""
    check_shape(shape)
    check_text_between(1, MOST_REPEATED, shape, numbers)
    behind = _places_behind(shape, numbers)
    places = list(range(len(behind)))
    # A receiver that is in step stays so, and behind so many rounds its places have come again.
    for _ in behind:
        places = [behind[place] for place in places]
    return [begin for begin, place in enumerate(places) if place != 0]


def greatest_silence(shape, numbers):
    """The length of the longest text of allowed numbers that passes in silence, None if there is none."""
    check_shape(shape)
    _check_allowed(shape, numbers)
    ways = _ways_of(shape, numbers)
    passing = list(ways)
    for many in range(len(ways)):
        passing = _leading_to(ways, passing)
        if passing == []:
            return many
    # A text that comes to more states than there are can go round for ever.
    return None


def silence_paper(shape, numbers, many):
    """A tuple (place, ones, text) that shows a text of so many numbers that passes in silence, or None."""
    check_shape(shape)
    _check_allowed(shape, numbers)
    _check_many(many)
    ways = _ways_of(shape, numbers)
    # The states from which a text of 0, 1, 2 .. numbers passes.
    passing = [list(ways)]
    for _ in range(many):
        passing.append(_leading_to(ways, passing[-1]))
    if passing[many] == []:
        return None
    state = passing[many][0]
    place, ones = state
    text = []
    for rest in reversed(range(many)):
        number, state = [way for way in ways[state] if way[1] in passing[rest]][0]
        text.append(number)
    return (place, ones, text)


def shows_silence(shape, numbers, many, value):
    """Whether any value is a tuple that shows a text of so many numbers that passes in silence."""
    check_shape(shape)
    _check_allowed(shape, numbers)
    _check_many(many)
    if not isinstance(value, tuple) or len(value) != 3:
        return False
    place, ones, text = value
    if not _is_state(shape, place, ones) or not is_list_up_to(many, text) or len(text) < many:
        return False
    state = (place, ones)
    for number in text:
        if not fits(shape, number) or number not in numbers:
            return False
        state = _state_behind(shape, state, number)
        if state is None:
            return False
    return True


def _places_behind(shape, numbers):
    """The places behind a text, for each place ahead of it."""
    levels = levels_of(shape, numbers)
    return [place_after_all(shape, place, levels) for place in range(size_of(shape))]


def _is_state(shape, place, ones):
    """Whether any two values are those of a state."""
    if not is_int_between(1, size_of(shape) - 1, place):
        return False
    most_ones = 0 if shape[1] == "none" or place == 1 else 1
    return is_int_between(0, most_ones, ones)


def _state_behind(shape, state, number):
    """The state behind a number, None if the number does not pass in silence from a state."""
    place, ones = state
    size = size_of(shape)
    right_ones = 1 if shape[1] == "odd" else 0
    for level in frame_of(shape, number):
        is_last = place == size - 1
        if shape[1] != "none" and 0 < place < size - shape[2]:
            ones = (ones + level) % 2
        place = place_after(shape, place, level)
        if place == WAITING or (is_last and ones != right_ones):
            return None
        if place == 0:
            ones = 0
    return None if place == 0 else (place, ones)


def _ways_of(shape, numbers):
    """The ways of allowed numbers."""
    states = [(place, ones) for place in range(1, size_of(shape)) for ones in (0, 1) if _is_state(shape, place, ones)]
    ways = {}
    for state in states:
        moves = [(number, _state_behind(shape, state, number)) for number in numbers]
        ways[state] = [(number, behind) for number, behind in moves if behind is not None]
    return ways


def _leading_to(ways, states):
    """The states from which an allowed number passes in silence and leads to one of some states."""
    return [state for state in ways if any([behind in states for _, behind in ways[state]])]


def _check_allowed(shape, numbers):
    """Raise InvalidText unless any value is a list of 1 to 20 different numbers of a valid shape."""
    if not is_list_up_to(MOST_ALLOWED, numbers) or numbers == []:
        raise InvalidText(None)
    for index, number in enumerate(numbers):
        if not fits(shape, number) or number in numbers[:index]:
            raise InvalidText(index)


def _check_many(many):
    """Raise InvalidNumber unless any value is an integer from 1 to 60."""
    if not is_int_between(1, MOST_SILENT, many):
        raise InvalidNumber("this is no integer from 1 to 60")
