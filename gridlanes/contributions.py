"""What an item asks of the lanes that it crosses."""

from gridlanes.axes import check_axis
from gridlanes.bounds import all_bounds
from gridlanes.contents import height_in, least_width, most_width
from gridlanes.errors import NoItem, NoNumber, NoSizes
from gridlanes.pages import Item, Page
from gridlanes.reckoning import greater, is_length, lesser, minus, plus, with_gaps
from gridlanes.repeats import check_whole
from gridlanes.templates import is_size


def size_in(item, axis):
    """Return the size that an item tells in an axis, None if it tells none."""
    return item.width if axis == "column" else item.height


def least_in(item, axis):
    """Return the least size that an item tells in an axis, None if it tells none."""
    return item.least_width if axis == "column" else item.least_height


def greatest_in(item, axis):
    """Return the greatest size that an item tells in an axis, None if it tells none."""
    return item.greatest_width if axis == "column" else item.greatest_height


def margins_in(item, axis):
    """Return the margins at the start and at the end of an item in an axis."""
    above, right, below, left = item.margins
    return (left, right) if axis == "column" else (above, below)


def margins_of(item, axis):
    """Return the sum of the margins of an item in an axis."""
    start, end = margins_in(item, axis)
    return plus(start, end)


def held(item, axis, size):
    """Return a size, held: at most the greatest, then at least the least size of an item."""
    greatest = greatest_in(item, axis)
    least = least_in(item, axis)
    if greatest is not None:
        size = lesser(size, greatest)
    return size if least is None else greater(size, least)


def outer(size, margins):
    """Return a size with margins, at least 0."""
    return greater(plus(size, margins), 0)


def may_ask(bounds):
    """Tell whether an item that crosses these lanes asks for the least size of its content by itself."""
    if all([lane.low_word != "auto" for lane in bounds]):
        return False
    return len(bounds) == 1 or all([lane.high_word != "share" for lane in bounds])


def automatic_least(item, axis, bounds, gap, own_least, margins):
    """Return the automatic least size of an item that crosses lanes with these bounds."""
    if not may_ask(bounds):
        return 0
    size = own_least
    greatest = greatest_in(item, axis)
    if greatest is not None:
        size = lesser(size, greatest)
    if all([lane.high_word == "fixed" for lane in bounds]):
        room = minus(with_gaps([lane.high for lane in bounds], gap), margins)
        size = lesser(size, greater(room, 0))
    return size


def limit_of(bounds, gap):
    """Return the most that lanes with these bounds may come to with their gaps, None if there is no such limit."""
    limits = [lane.cap if lane.high is None else lane.high for lane in bounds]
    if any([limit is None for limit in limits]):
        return None
    return with_gaps(limits, gap)


def asked_of(item, axis, bounds, gap, own, margins):
    """Return the contributions of an item to lanes with these bounds.

    own has the own least and most size of its content, margins is the sum of all margins that count for it.
    """
    size = size_in(item, axis)
    least = outer(held(item, axis, own[0] if size is None else size), margins)
    most = outer(held(item, axis, own[1] if size is None else size), margins)
    minimum = least
    if size is None:
        told_least = least_in(item, axis)
        if told_least is None:
            told_least = automatic_least(item, axis, bounds, gap, own[0], margins)
        minimum = outer(told_least, margins)
    limit = limit_of(bounds, gap)
    if limit is None:
        return (least, most, minimum, least, most)
    limited_least = greater(lesser(least, limit), minimum)
    return (least, most, minimum, limited_least, greater(lesser(most, limit), minimum))


def own_sizes(content, axis, inner):
    """Return the own least and most size of Words or a Block."""
    if axis == "column":
        return (least_width(content), most_width(content))
    height = height_in(content, inner)
    return (height, height)


def is_own(value):
    """Tell whether a value is a tuple of two LENGTHS, an own least and most size."""
    return isinstance(value, tuple) and len(value) == 2 and is_length(value[0]) and is_length(value[1])


def check_sizes(sizes):
    """Raise NoSizes if this is no tuple of one size at least."""
    if not isinstance(sizes, tuple) or len(sizes) == 0:
        raise NoSizes(-1)
    for index, size in enumerate(sizes):
        if not is_size(size):
            raise NoSizes(index)


def check_inner(inner, axis, own):
    """Raise NoNumber if this is no width for a content, or None although one is needed."""
    is_needed = axis == "row" and own is None
    if not is_length(inner) and (is_needed or inner is not None):
        raise NoNumber("inner")


def contributions(item, axis, sizes, gap, *, whole=None, inner=None, own=None):
    """Return what an item asks of lanes of these sizes: least, most, minimum, limited least and limited most."""
    if not isinstance(item, Item):
        raise NoItem("item")
    check_axis(axis)
    check_sizes(sizes)
    if not is_length(gap):
        raise NoNumber("gap")
    check_whole(whole)
    check_inner(inner, axis, own)
    if own is not None and not is_own(own):
        raise NoNumber("own")
    if own is None:
        if isinstance(item.content, Page):
            raise NoItem("content")
        own = own_sizes(item.content, axis, inner)
    return asked_of(item, axis, all_bounds(sizes, whole), gap, own, margins_of(item, axis))
