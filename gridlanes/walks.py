"""The walk: in which lanes the items of a page lie."""

from gridlanes.axes import AXES, check_lanes
from gridlanes.errors import NoNumber, NoPage
from gridlanes.lines import Lines, cut_meaning, is_count, meaning_of, told_lines
from gridlanes.pages import Page
from gridlanes.written import told_lanes


class Walk:
    """The state of a walk, told as for the flow "row": across stands for columns, down for rows.

    across and down tell for each item what its edges mean; areas has a tuple (first across, behind across, first
    down, behind down) for each item that is placed, None for the others.
    """

    def __init__(self, across, down, is_dense):
        self.across = across
        self.down = down
        self.is_dense = is_dense
        self.first_across = first_lane(across)
        self.first_down = first_lane(down)
        self.areas = [None for _ in across]


def first_lane(meanings):
    """Return the first lane of an axis, by what the edges of all items mean in it."""
    return min([0] + [meaning[1] for meaning in meanings if meaning[0] == "at"])


def share_lanes(first, behind, other_first, other_behind):
    """Tell whether two stretches of lanes have a lane in common."""
    return first < other_behind and other_first < behind


def met_area(walk, area):
    """Return an area of a placed item that has a cell in common with this one, None if there is none."""
    for other in walk.areas:
        if other is not None and share_lanes(area[0], area[1], other[0], other[1]):
            if share_lanes(area[2], area[3], other[2], other[3]):
                return other
    return None


def place_told(walk):
    """Place the items with told lanes in both axes."""
    for index, across in enumerate(walk.across):
        down = walk.down[index]
        if across[0] == "at" and down[0] == "at":
            walk.areas[index] = (across[1], across[2], down[1], down[2])


def free_area_across(walk, first, span, down):
    """Return the first free area of this span, from a lane on, in told lanes down."""
    area = (first, first + span, down[1], down[2])
    other = met_area(walk, area)
    while other is not None:
        # Each lane ahead of the end of the met area would meet it, too.
        area = (other[1], other[1] + span, down[1], down[2])
        other = met_area(walk, area)
    return area


def place_told_down(walk, order):
    """Place the items with told lanes down and a span across."""
    placed = []
    for index in order:
        across = walk.across[index]
        down = walk.down[index]
        if across[0] == "span" and down[0] == "at":
            first = walk.first_across
            if not walk.is_dense:
                ends = [area[1] for area in placed if share_lanes(area[2], area[3], down[1], down[2])]
                first = max([first] + ends)
            walk.areas[index] = free_area_across(walk, first, across[1], down)
            placed.append(walk.areas[index])


def end_across(walk, many):
    """Return the line at which the lanes across end once just the items with free lanes down are left."""
    ends = [many]
    for index, across in enumerate(walk.across):
        if across[0] == "at":
            ends.append(across[2])
        elif walk.areas[index] is None:
            ends.append(walk.first_across + across[1])
        else:
            ends.append(walk.areas[index][1])
    return max(ends)


def free_area_down(walk, across, first, span):
    """Return the first free area of this span, from a lane on, in told lanes across."""
    area = (across[1], across[2], first, first + span)
    other = met_area(walk, area)
    while other is not None:
        area = (across[1], across[2], other[3], other[3] + span)
        other = met_area(walk, area)
    return area


def free_area(walk, cursor, spans, end):
    """Return the first free area of these spans from a cursor on, by lanes down, then by lanes across."""
    across, down = cursor
    while True:
        if across + spans[0] > end:
            across = walk.first_across
            down += 1
        area = (across, across + spans[0], down, down + spans[1])
        other = met_area(walk, area)
        if other is None:
            return area
        across = other[1]


def place_by_cursor(walk, order, end):
    """Place the items with free lanes down."""
    cursor = (walk.first_across, walk.first_down)
    for index in order:
        if walk.areas[index] is None:
            across = walk.across[index]
            span = walk.down[index][1]
            if walk.is_dense:
                cursor = (walk.first_across, walk.first_down)
            if across[0] == "span":
                area = free_area(walk, cursor, (across[1], span), end)
            elif across[1] < cursor[0] and not walk.is_dense:
                area = free_area_down(walk, across, cursor[1] + 1, span)
            else:
                area = free_area_down(walk, across, cursor[1], span)
            walk.areas[index] = area
            cursor = (area[0], area[2])


def moved_back(first, behind, lines):
    """Return a stretch of lanes, moved so that it ends at the last line if it goes beyond that of inherited lanes."""
    beyond = max(behind - lines.lanes, 0) if lines.is_inherited else 0
    return (first - beyond, behind - beyond)


def walked(walk, order, across_lines, down_lines):
    """Place all items; return their areas, across and down, and the ends of both axes."""
    place_told(walk)
    place_told_down(walk, order)
    end = across_lines.lanes if across_lines.is_inherited else end_across(walk, across_lines.lanes)
    place_by_cursor(walk, order, end)
    areas = []
    for area in walk.areas:
        across = moved_back(area[0], area[1], across_lines)
        areas.append(across + moved_back(area[2], area[3], down_lines))
    behind_across = max([across_lines.lanes] + [area[1] for area in areas])
    behind_down = max([down_lines.lanes] + [area[3] for area in areas])
    return (areas, ((walk.first_across, behind_across), (walk.first_down, behind_down)))


def meaning_in(lines, edges):
    """Return what two edges mean in an axis with these lines."""
    meaning = meaning_of(lines.names, edges)
    return cut_meaning(meaning, lines.lanes) if lines.is_inherited else meaning


def walk_page(page, column_lines, row_lines):
    """Return the areas of the items of a page, and the ends of its axes, as places tells them."""
    members = page.members
    columns = [meaning_in(column_lines, member.column) for member in members]
    rows = [meaning_in(row_lines, member.row) for member in members]
    order = sorted(range(len(members)), key=lambda index: members[index].order)
    if page.grid.flow == "row":
        return walked(Walk(columns, rows, page.grid.dense), order, column_lines, row_lines)
    areas, ends = walked(Walk(rows, columns, page.grid.dense), order, row_lines, column_lines)
    return ([area[2:] + area[:2] for area in areas], (ends[1], ends[0]))


def are_counts(value):
    """Tell whether a value tells how often a fill or fit of the columns and of the rows repeats."""
    return isinstance(value, tuple) and len(value) == 2 and is_count(value[0]) and is_count(value[1])


def check_ends(ends):
    """Raise ManyLanes if there are too many lanes between the ends of an axis."""
    for axis, (first, behind) in zip(AXES, ends):
        check_lanes(axis, behind - first)


def places(page, *, counts=(1, 1)):
    """Return the list of the areas of the items of a page, and the ends of its axes."""
    if not isinstance(page, Page):
        raise NoPage("page", -1)
    if not are_counts(counts):
        raise NoNumber("counts")
    for axis, count in zip(AXES, counts):
        check_lanes(axis, told_lanes(page.grid, axis, count))
    lines = [Lines(told_lines(page.grid, axis, count), False) for axis, count in zip(AXES, counts)]
    areas, ends = walk_page(page, lines[0], lines[1])
    check_ends(ends)
    return (areas, ends)
