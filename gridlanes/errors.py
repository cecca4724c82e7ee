"""The errors of the package, each with the fields that tell what is wrong.

No class passes its fields on to ValueError: they may be any values, and a message made of them could fail.
"""


class LaneError(ValueError):
    """What every error of this package is."""


class NoNumber(LaneError):
    """An argument is no number of the asked kind."""

    def __init__(self, part):
        self.part = part


class NoContent(LaneError):
    """A part of Words or a Block is wrong, or a content is neither."""

    def __init__(self, part, index):
        self.part = part
        self.index = index


class NoGrid(LaneError):
    """A parameter of a Grid is wrong, or an argument is no Grid."""

    def __init__(self, part, index):
        self.part = part
        self.index = index


class NoItem(LaneError):
    """A parameter of an Item is wrong, or an argument is no Item."""

    def __init__(self, part):
        self.part = part


class NoPage(LaneError):
    """A parameter of a Page is wrong, or an argument is no Page."""

    def __init__(self, part, index):
        self.part = part
        self.index = index


class ManyLanes(LaneError):
    """An axis needs more than 60 lanes."""

    def __init__(self, axis):
        self.axis = axis


class NoPath(LaneError):
    """A path leads to no length."""

    def __init__(self, path):
        self.path = path


class NoRange(LaneError):
    """An end of a range is wrong."""

    def __init__(self, part):
        self.part = part


class TooMany(LaneError):
    """There are more of what is asked for than the told most."""

    def __init__(self, most):
        self.most = most


class NoWish(LaneError):
    """A value is no wish about the boxes of a page."""

    def __init__(self, wish):
        self.wish = wish


class OtherBoxes(LaneError):
    """Two pages have different numbers of boxes."""

    def __init__(self, one, other):
        self.one = one
        self.other = other


class NoAxis(LaneError):
    """A value is neither "column" nor "row"."""


class NoArea(LaneError):
    """Areas, or one of them, are wrong."""

    def __init__(self, index):
        self.index = index


class NoSizes(LaneError):
    """Sizes, or one of them, are wrong."""

    def __init__(self, index):
        self.index = index


class NoCrossings(LaneError):
    """Crossings, or one of them, are wrong."""

    def __init__(self, index):
        self.index = index


class NoOrder(LaneError):
    """Places for items, or one of them, are wrong."""

    def __init__(self, index):
        self.index = index


class NoText(LaneError):
    """A text, or one of its lines, has not the form of a page's text."""

    def __init__(self, line):
        self.line = line


class NoStates(LaneError):
    """A value is no list or tuple of states."""
