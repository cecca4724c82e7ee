"""What a grid tells of one of its axes, and what functions ask of a grid and an axis."""

from gridlanes.errors import ManyLanes, NoAxis, NoGrid
from gridlanes.fields import field_cells
from gridlanes.names import is_marked, is_word
from gridlanes.pages import Grid

AXES = ("column", "row")
MOST_LANES = 60


def check_axis(axis):
    """Raise NoAxis if this is neither "column" nor "row"."""
    if not is_word(axis, AXES):
        raise NoAxis()


def check_grid_axis(grid, axis):
    """Raise NoGrid or NoAxis if this is no Grid, or no axis."""
    if not isinstance(grid, Grid):
        raise NoGrid("grid", -1)
    check_axis(axis)


def check_lanes(axis, many):
    """Raise ManyLanes if an axis needs so many lanes."""
    if many > MOST_LANES:
        raise ManyLanes(axis)


def asked_template(grid, axis):
    """Return the template that a grid has in an axis, as it stands there."""
    return grid.columns if axis == "column" else grid.rows


def inherits(grid, axis):
    """Tell whether the lanes of an axis come from the page around, if there is one."""
    return is_marked(asked_template(grid, axis), "inherited", 2)


def template_of(grid, axis):
    """Return the template of an axis, for an inherited one ()."""
    return () if inherits(grid, axis) else asked_template(grid, axis)


def further_sizes(grid, axis):
    """Return the sizes of further lanes of an axis."""
    return grid.more_columns if axis == "column" else grid.more_rows


def asked_gap(grid, axis):
    """Return the gap that a grid tells for an axis, a LENGTH or a part."""
    return grid.column_gap if axis == "column" else grid.row_gap


def field_lanes(grid, axis):
    """Return how many columns or rows the fields have."""
    if axis == "row" or len(grid.fields) == 0:
        return len(grid.fields)
    return len(grid.fields[0])


def field_stretches(grid, axis):
    """Return a list with a tuple (name, first, behind) for each field: the lines at which it begins and ends."""
    stretches = []
    for name, cells in field_cells(grid.fields).items():
        lanes = [column if axis == "column" else row for row, column in cells]
        stretches.append((name, min(lanes), max(lanes) + 1))
    return stretches
