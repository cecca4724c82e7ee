"""How often a fill or fit repeats, which lanes an axis has, their sizes, and the gap between them."""

from gridlanes.axes import asked_gap, check_grid_axis, check_lanes, further_sizes, template_of
from gridlanes.bounds import bounds_of, length_in
from gridlanes.errors import NoArea, NoNumber
from gridlanes.names import is_marked
from gridlanes.reckoning import at_most, greater, is_integer, is_length, plus, total
from gridlanes.written import filled_lanes, filler_of, inner_sizes, told_lanes, written_sizes


def is_whole(value):
    """Tell whether a value is a length of a page, or None for none."""
    return value is None or is_length(value)


def check_whole(whole):
    """Raise NoNumber if this is no length of a page, and not None."""
    if not is_whole(whole):
        raise NoNumber("whole")


def check_repeats(grid, axis, count):
    """Raise NoNumber or ManyLanes if a fill or fit of an axis cannot repeat so often."""
    fewest = 0 if filler_of(template_of(grid, axis)) is None else 1
    if not is_integer(count) or count < fewest:
        raise NoNumber("count")
    check_lanes(axis, told_lanes(grid, axis, count))


def fitting_length(size, whole):
    """Return the length with which a lane is counted where a fill or fit is repeated."""
    bounds = bounds_of(size, whole)
    if bounds.high is None:
        return bounds.low
    return bounds.high if bounds.low is None else greater(bounds.low, bounds.high)


def fitting_sum(sizes, gap, whole):
    """Return how long lanes are where a fill or fit is repeated, with a gap behind each."""
    return total([plus(fitting_length(size, whole), gap) for size in sizes])


def gap_in(grid, axis, whole):
    """Return the gap between two lanes, 0 for a part if there is no whole."""
    gap = length_in(asked_gap(grid, axis), whole)
    return 0 if gap is None else gap


def fitting_repeats(grid, axis, whole):
    """Return how often the fill or fit of an axis is repeated."""
    template = template_of(grid, axis)
    filler = filler_of(template)
    if filler is None:
        return 0
    if whole is None:
        return 1
    gap = gap_in(grid, axis, whole)
    more = fitting_sum(inner_sizes(filler[1]), gap, whole)
    if at_most(more, 0):
        return 1
    count = 1
    # The last lane has no gap behind it.
    room = plus(whole, gap)
    reached = plus(fitting_sum(written_sizes(template, 1), gap, whole), more)
    while at_most(reached, room):
        count += 1
        check_lanes(axis, filled_lanes(template, count))
        reached = plus(reached, more)
    return count


def further_size(grid, axis, index):
    """Return the size of a further lane: from 0 on behind the template, below 0 ahead of it."""
    sizes = further_sizes(grid, axis)
    return sizes[index % len(sizes)]


def sizes_between(grid, axis, count, first, behind):
    """Return the list of the sizes of the lanes from first to the one ahead of behind."""
    sizes = [further_size(grid, axis, lane) for lane in range(first, 0)]
    sizes.extend(written_sizes(template_of(grid, axis), count))
    ahead = len(sizes) + first
    sizes.extend([further_size(grid, axis, lane - ahead) for lane in range(ahead, behind)])
    return sizes


def lanes_of_fit(grid, axis, count):
    """Return the list of the lanes that a fit of the template has."""
    lanes = []
    reached = 0
    for entry in template_of(grid, axis):
        many = len(written_sizes((entry,), count))
        if is_marked(entry, "fit", 2):
            lanes.extend(list(range(reached, reached + many)))
        reached += many
    return lanes


def lanes_without_items(grid, axis, count, areas):
    """Return the list of the lanes of a fit that are in none of these areas."""
    return [
        lane for lane in lanes_of_fit(grid, axis, count)
        if not any([first <= lane < behind for first, behind in areas])
    ]


def is_area(value):
    """Tell whether a value is a tuple of two integers, the first one less."""
    if not isinstance(value, tuple) or len(value) != 2:
        return False
    return is_integer(value[0]) and is_integer(value[1]) and value[0] < value[1]


def check_areas(areas):
    """Raise NoArea if this is no list or tuple of areas."""
    if not isinstance(areas, (list, tuple)):
        raise NoArea(-1)
    for index, area in enumerate(areas):
        if not is_area(area):
            raise NoArea(index)


def repeats_of(grid, axis, whole):
    """Return how often the fill or fit of an axis is repeated, 0 without one."""
    check_grid_axis(grid, axis)
    check_whole(whole)
    return fitting_repeats(grid, axis, whole)


def template_sizes(grid, axis, count):
    """Return the list of the sizes of a template, those of a fill or fit so many times."""
    check_grid_axis(grid, axis)
    check_repeats(grid, axis, count)
    return written_sizes(template_of(grid, axis), count)


def lane_count(grid, axis, count):
    """Return how many lanes are told, by the template or by the fields."""
    check_grid_axis(grid, axis)
    check_repeats(grid, axis, count)
    return told_lanes(grid, axis, count)


def lane_sizes(grid, axis, count, first, behind):
    """Return the list of the sizes of the lanes from first to the one ahead of behind."""
    check_grid_axis(grid, axis)
    check_repeats(grid, axis, count)
    if not is_integer(first) or first > 0:
        raise NoNumber("first")
    if not is_integer(behind) or behind < told_lanes(grid, axis, count):
        raise NoNumber("behind")
    check_lanes(axis, behind - first)
    return sizes_between(grid, axis, count, first, behind)


def fallen_lanes(grid, axis, count, areas):
    """Return the ascending list of the lanes of a fit that are in none of these areas."""
    check_grid_axis(grid, axis)
    check_repeats(grid, axis, count)
    check_areas(areas)
    return lanes_without_items(grid, axis, count, areas)


def gap_of(grid, axis, whole):
    """Return the gap between two lanes of an axis."""
    check_grid_axis(grid, axis)
    check_whole(whole)
    return gap_in(grid, axis, whole)
