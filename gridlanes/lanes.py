"""The sizes of lanes, and the states behind them."""

from gridlanes.bounds import all_bounds
from gridlanes.errors import NoCrossings, NoNumber, NoSizes
from gridlanes.names import is_word
from gridlanes.reckoning import is_integer, is_length
from gridlanes.sizing import states_of
from gridlanes.templates import is_size

MOST_SIZED = 60
MOST_CROSSINGS = 60


def check_sizes(sizes):
    """Raise NoSizes if this is no list or tuple of at most 60 sizes."""
    if not isinstance(sizes, (list, tuple)) or len(sizes) > MOST_SIZED:
        raise NoSizes(-1)
    for index, size in enumerate(sizes):
        if not is_size(size):
            raise NoSizes(index)


def are_asked(value):
    """Tell whether a value is a tuple of five contributions."""
    return isinstance(value, tuple) and len(value) == 5 and all([is_length(asked) for asked in value])


def is_crossing(value, many):
    """Tell whether a value is a crossing of some of so many lanes."""
    if not isinstance(value, tuple) or len(value) != 3:
        return False
    first, behind, asked = value
    if not is_integer(first) or not is_integer(behind):
        return False
    return 0 <= first < behind <= many and are_asked(asked)


def check_crossings(crossings, many):
    """Raise NoCrossings if this is no list or tuple of at most 60 crossings of so many lanes."""
    if not isinstance(crossings, (list, tuple)) or len(crossings) > MOST_CROSSINGS:
        raise NoCrossings(-1)
    for index, crossing in enumerate(crossings):
        if not is_crossing(crossing, many):
            raise NoCrossings(index)


def check_arguments(sizes, gap, crossings, room, stretched):
    """Raise an error if lanes cannot be sized by these arguments."""
    check_sizes(sizes)
    if not is_length(gap):
        raise NoNumber("gap")
    check_crossings(crossings, len(sizes))
    if not is_length(room) and not is_word(room, ("least", "most")):
        raise NoNumber("room")
    if not isinstance(stretched, bool):
        raise NoNumber("stretched")


def lane_states(sizes, gap, crossings, room, *, stretched=False):
    """Return the list of the states by which lanes get their sizes: tuples (step, bases, limits)."""
    check_arguments(sizes, gap, crossings, room, stretched)
    whole = None if isinstance(room, str) else room
    return states_of(all_bounds(sizes, whole), gap, crossings, room, stretched)


def sized_lanes(sizes, gap, crossings, room, *, stretched=False):
    """Return the list of the sizes that lanes get."""
    return list(lane_states(sizes, gap, crossings, room, stretched=stretched)[-1][1])
