"""The lanes of an axis that get sizes together, and what items ask of them."""

from gridlanes.axes import asked_gap
from gridlanes.bounds import all_bounds
from gridlanes.contributions import asked_of, margins_in
from gridlanes.reckoning import is_more, minus, over, plus
from gridlanes.repeats import gap_in, lanes_without_items, sizes_between
from gridlanes.sheets import in_axis, lanes_of_item
from gridlanes.sizing import states_of
from gridlanes.templates import is_part


class Lanes:
    """The lanes of an axis, from the first to the one ahead of behind.

    Those that fell away are left out of sizes and bounds; positions tells where each other lane stands in these.
    """

    def __init__(self, first, behind, positions, sizes, whole, gap):
        self.first = first
        self.behind = behind
        self.positions = positions
        self.sizes = sizes
        self.bounds = all_bounds(sizes, whole)
        self.gap = gap


def lanes_in(walked, axis, whole):
    """Return the lanes of an axis; whole is the size of the page there, None if it has none."""
    grid = walked.sheet.page.grid
    count = in_axis(walked.counts, axis)
    first, behind = in_axis(walked.ends, axis)
    areas = [lanes_of_item(walked, index, axis) for index in range(len(walked.areas))]
    fallen = lanes_without_items(grid, axis, count, areas)
    positions = {}
    sizes = []
    for lane, size in enumerate(sizes_between(grid, axis, count, first, behind), first):
        if lane not in fallen:
            positions[lane] = len(sizes)
            sizes.append(size)
    return Lanes(first, behind, positions, sizes, whole, gap_in(grid, axis, whole))


def sized(lanes, crossings, room, is_stretched):
    """Return the sizes of lanes that did not fall away, in a room."""
    return list(states_of(lanes.bounds, lanes.gap, crossings, room, is_stretched)[-1][1])


def crossed(walked, index, axis, lanes):
    """Return the positions of the first lane of an item, and of the one behind its last one."""
    first, behind = lanes_of_item(walked, index, axis)
    return (lanes.positions[first], lanes.positions[behind - 1] + 1)


def crossing_of(item, axis, lanes, span, own, margins):
    """Return the crossing of an item, with the own sizes of its content and the sum of its margins."""
    bounds = lanes.bounds[span[0]:span[1]]
    return (span[0], span[1], asked_of(item, axis, bounds, lanes.gap, own, margins))


def difference(grid, axis, gap):
    """Return by how much the gap of a page with inherited lanes is more than the gap around."""
    inner_gap = asked_gap(grid, axis)
    return minus(0 if is_part(inner_gap) else inner_gap, gap)


def half(number):
    """Return half of a NUMBER."""
    return over(number, 2)


def inherited_crossings(item, axis, lanes, span, inner, owns, shims):
    """Return the crossings of an item whose page inherits its lanes: that of its margins, and of the items in it.

    inner tells where these lie, owns the own sizes of their contents, shims what they have for further margins.
    """
    start, end = margins_in(item, axis)
    crossings = []
    if is_more(plus(start, end), 0):
        crossings.append((span[0], span[1], (plus(start, end),) * 5))
    members = inner.sheet.page.members
    between = half(difference(inner.sheet.page.grid, axis, lanes.gap))
    for index, member in enumerate(members):
        first, behind = lanes_of_item(inner, index, axis)
        member_start, member_end = margins_in(member, axis)
        margins = plus(plus(member_start, member_end), shims[index])
        margins = plus(margins, start if first == 0 else between)
        margins = plus(margins, end if behind == span[1] - span[0] else between)
        inner_span = (span[0] + first, span[0] + behind)
        crossings.append(crossing_of(member, axis, lanes, inner_span, owns[index], margins))
    return crossings
