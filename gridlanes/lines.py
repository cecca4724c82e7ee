"""The lines of an axis and their names, and what two edges of an item mean."""

from gridlanes.axes import asked_template, check_grid_axis, check_lanes, field_lanes, field_stretches, template_of
from gridlanes.edges import are_edges
from gridlanes.errors import NoItem, NoNumber
from gridlanes.reckoning import is_integer
from gridlanes.written import is_names, told_lanes, written_entries

MOST_COUNT = 60


class Lines:
    """The names of the lines of an axis; if it is inherited, there are no further lanes and lines."""

    def __init__(self, names, is_inherited):
        self.names = names
        self.lanes = len(names) - 1
        self.is_inherited = is_inherited


def is_count(value):
    """Tell whether a fill or fit may be asked to repeat so often."""
    return is_integer(value) and 1 <= value <= MOST_COUNT


def check_count(count):
    """Raise NoNumber if this does not tell how often a fill or fit repeats."""
    if not is_count(count):
        raise NoNumber("count")


def sorted_names(lines):
    """Return a list of the names of each line, ascending, each name once."""
    return [sorted(set(names)) for names in lines]


def add_field_names(lines, grid, axis):
    """Add the names that fields give to lines; what would lie behind the last line lies at it."""
    last = len(lines) - 1
    for name, first, behind in field_stretches(grid, axis):
        lines[min(first, last)].append(name + "-start")
        lines[min(behind, last)].append(name + "-end")


def told_lines(grid, axis, count):
    """Return the list of the names of the lines of an axis whose lanes are its own."""
    lines = [[]]
    for entry in written_entries(template_of(grid, axis), count):
        if is_names(entry):
            lines[-1].extend(entry[1])
        else:
            lines.append([])
    while len(lines) <= field_lanes(grid, axis):
        lines.append([])
    add_field_names(lines, grid, axis)
    return sorted_names(lines)


def inherited_lines(grid, axis, outer_lines):
    """Return the list of the names of inherited lines, to which these names come from outside."""
    own_lines = asked_template(grid, axis)[1]
    lines = []
    for line, names in enumerate(outer_lines):
        own_names = own_lines[line] if line < len(own_lines) else ()
        lines.append([*names, *own_names])
    add_field_names(lines, grid, axis)
    return sorted_names(lines)


def is_span(edge):
    """Tell whether an edge is a span."""
    return isinstance(edge, tuple) and edge[0] == "span"


def lines_with(lines, name):
    """Return the list of the lines that have a name."""
    return [line for line, names in enumerate(lines) if name in names]


def counted_line(lines, name, count):
    """Return the line that is so many lines with a name behind the begin, or, below 0, ahead of the end."""
    found = lines_with(lines, name)
    if count > 0:
        return found[count - 1] if count <= len(found) else len(lines) - 1 + count - len(found)
    return found[count] if 0 - count <= len(found) else count + len(found)


def named_line(lines, name, ending):
    """Return the line that a name alone tells, as a start or an end by its ending."""
    found = lines_with(lines, name + ending)
    return found[0] if len(found) > 0 else counted_line(lines, name, 1)


def told_line(lines, edge, ending):
    """Return the line that an edge tells, None if it tells none."""
    if edge is None or is_span(edge):
        return None
    if isinstance(edge, str):
        return named_line(lines, edge, ending)
    if isinstance(edge, tuple):
        return counted_line(lines, edge[0], edge[1])
    return edge - 1 if edge > 0 else len(lines) + edge


def line_behind(lines, edge, line):
    """Return the line at which what begins at a line ends, by an edge that tells no line."""
    if edge is None:
        return line + 1
    if len(edge) == 2:
        return line + edge[1]
    found = [other for other in lines_with(lines, edge[2]) if other > line]
    if edge[1] <= len(found):
        return found[edge[1] - 1]
    return max(len(lines) - 1, line) + edge[1] - len(found)


def line_ahead(lines, edge, line):
    """Return the line at which what ends at a line begins, by an edge that tells no line."""
    if edge is None:
        return line - 1
    if len(edge) == 2:
        return line - edge[1]
    found = [other for other in lines_with(lines, edge[2]) if other < line]
    if edge[1] <= len(found):
        return found[0 - edge[1]]
    return min(0, line) - edge[1] + len(found)


def free_span(start, end):
    """Return what two edges mean of which none tells a line."""
    edge = end if start is None else start
    if is_span(edge) and len(edge) == 2:
        return ("span", edge[1])
    return ("span", 1)


def meaning_of(lines, edges):
    """Return what two edges mean among these lines, as edges_of tells it."""
    start, end = edges
    first = told_line(lines, start, "-start")
    behind = told_line(lines, end, "-end")
    if first is None and behind is None:
        return free_span(start, end)
    if first is None:
        return ("at", line_ahead(lines, start, behind), behind)
    if behind is None:
        return ("at", first, line_behind(lines, end, first))
    if first == behind:
        return ("at", first, first + 1)
    return ("at", min(first, behind), max(first, behind))


def cut_meaning(meaning, many):
    """Return what edges mean in an axis that has just so many lanes."""
    if meaning[0] == "span":
        return ("span", min(meaning[1], many))
    first = min(max(meaning[1], 0), many - 1)
    return ("at", first, max(min(meaning[2], many), first + 1))


def lines_of(grid, axis, *, count=1):
    """Return the list of the names of the told lines of an axis, for each line a list."""
    check_grid_axis(grid, axis)
    check_count(count)
    check_lanes(axis, told_lanes(grid, axis, count))
    return told_lines(grid, axis, count)


def edges_of(grid, axis, edges, *, count=1):
    """Return what two edges mean: ("at", first, behind), or ("span", k)."""
    check_grid_axis(grid, axis)
    check_count(count)
    if not are_edges(edges):
        raise NoItem(axis)
    check_lanes(axis, told_lanes(grid, axis, count))
    return meaning_of(told_lines(grid, axis, count), edges)
