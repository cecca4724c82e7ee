"""What the sizes of lanes come to, once it is told of which length a part is a part."""

from gridlanes.names import is_marked
from gridlanes.reckoning import times


class Bounds:
    """The LOW, the HIGH and the CAP of a lane.

    low_word and high_word are "fixed", "least", "most" or "auto", high_word also "share". low and high are the LENGTHS
    of fixed ones, otherwise None; share is the NUMBER of a share, otherwise None; cap is a LENGTH or None.
    """

    def __init__(self, low, high, cap):
        self.low_word, self.low = low
        self.high_word, self.high = high
        self.share = None
        self.cap = cap
        if self.high_word == "share":
            self.share = self.high
            self.high = None


def length_in(value, whole):
    """Return the length of a LENGTH or a part; None for a part if there is no whole."""
    if not is_marked(value, "part", 2):
        return value
    return None if whole is None else times(value[1], whole)


def bound_of(value, whole):
    """Return a tuple (word, number) for a low or a high."""
    if isinstance(value, str):
        return (value, None)
    if is_marked(value, "share", 2):
        return ("share", value[1])
    length = length_in(value, whole)
    return ("auto", None) if length is None else ("fixed", length)


def bounds_of(size, whole):
    """Return the Bounds of a size; whole is the length of which parts are told, None if there is none."""
    if is_marked(size, "between", 3):
        return Bounds(bound_of(size[1], whole), bound_of(size[2], whole), None)
    if is_marked(size, "upto", 2):
        return Bounds(("auto", None), ("most", None), length_in(size[1], whole))
    high = bound_of(size, whole)
    return Bounds(("auto", None) if high[0] == "share" else high, high, None)


def all_bounds(sizes, whole):
    """Return the list of the Bounds of sizes."""
    return [bounds_of(size, whole) for size in sizes]
