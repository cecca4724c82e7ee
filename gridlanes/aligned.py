"""Where the lanes of a page lie that have got their sizes, and where lanes lie that a page inherits."""

from gridlanes.contributions import margins_in
from gridlanes.crossings import half
from gridlanes.reckoning import greater, is_more, minus, over, plus, with_gaps


def spread(many, space, gap, way):
    """Return where the first of so many lanes begins, and the gap between them, if space is left for a way."""
    if way == "end":
        return (space, gap)
    if way == "center":
        return (half(space), gap)
    if is_more(space, 0):
        if way == "between" and many > 1:
            return (0, plus(gap, over(space, many - 1)))
        if way == "around" and many > 0:
            return (half(over(space, many)), plus(gap, over(space, many)))
        if way == "evenly":
            return (over(space, many + 1), plus(gap, over(space, many + 1)))
    return (0, gap)


def placed_lanes(lanes, sizes, room, way):
    """Return the tuple of tuples (start, size) of all lanes, of which those with sizes did not fall away."""
    start, gap = spread(len(sizes), minus(room, with_gaps(sizes, lanes.gap)), lanes.gap, way)
    placed = []
    end = 0
    for lane in range(lanes.first, lanes.behind):
        position = lanes.positions.get(lane, None)
        if position is None:
            placed.append(None)
        else:
            placed.append((start, sizes[position]))
            end = plus(start, sizes[position])
            start = plus(end, gap)
    return with_fallen_lanes(placed, end)


def with_fallen_lanes(placed, end):
    """Return the tuple of lanes, those that fell away (None) put where the next one begins, or else at the end."""
    found = []
    start = end
    for lane in reversed(placed):
        if lane is not None:
            start = lane[0]
        found.append((start, 0) if lane is None else lane)
    return tuple(found[::-1])


def stretch_of(places, first, span):
    """Return where a stretch of lanes begins, and its size; first is the number of the first lane of all."""
    start = places[span[0] - first][0]
    last_start, last_size = places[span[1] - 1 - first]
    return (start, minus(plus(last_start, last_size), start))


def inherited_places(item, axis, places, gap_difference):
    """Return the places that the lanes of an item have for the page in it, told from the begin of its box.

    places are those of the lanes in the page around, gap_difference is how much more the gap within is.
    """
    margin_start, margin_end = margins_in(item, axis)
    origin = plus(places[0][0], margin_start)
    between = half(gap_difference)
    found = []
    for index, (start, size) in enumerate(places):
        begin = plus(start, margin_start if index == 0 else between)
        end = minus(plus(start, size), margin_end if index == len(places) - 1 else between)
        found.append((minus(begin, origin), greater(minus(end, begin), 0)))
    return tuple(found)
