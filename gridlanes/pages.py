"""Grids, items and pages: what there is to lay out."""

from gridlanes.contents import Block, Words
from gridlanes.edges import are_edges
from gridlanes.errors import NoGrid, NoItem, NoPage
from gridlanes.fields import wrong_field_row
from gridlanes.names import is_word
from gridlanes.reckoning import is_integer, is_length, is_number
from gridlanes.templates import is_fixed, is_inherited, is_size, is_template

FLOWS = ("row", "column")
LANES_WAYS = ("start", "end", "center", "stretch", "between", "around", "evenly")
WAYS_ACROSS = ("start", "end", "center", "stretch")
WAYS_DOWN = ("start", "end", "center", "stretch", "baseline")
MOST_FURTHER_SIZES = 8
MOST_MEMBERS = 12


class Grid:
    """What is told of the columns and rows of a page."""

    def __init__(self, columns=(), rows=(), *, fields=(), more_columns=("auto",), more_rows=("auto",),
                 flow="row", dense=False, column_gap=0, row_gap=0, justify="stretch", align="stretch",
                 items_justify="stretch", items_align="stretch"):
        check_grid("columns", is_template(columns))
        check_grid("rows", is_template(rows))
        check_fields(fields)
        check_further_sizes("more_columns", more_columns)
        check_further_sizes("more_rows", more_rows)
        check_grid("flow", is_word(flow, FLOWS))
        check_grid("dense", isinstance(dense, bool))
        check_grid("column_gap", is_fixed(column_gap))
        check_grid("row_gap", is_fixed(row_gap))
        check_grid("justify", is_word(justify, LANES_WAYS))
        check_grid("align", is_word(align, LANES_WAYS))
        check_grid("items_justify", is_word(items_justify, WAYS_ACROSS))
        check_grid("items_align", is_word(items_align, WAYS_DOWN))
        self.columns = columns
        self.rows = rows
        self.fields = fields
        self.more_columns = more_columns
        self.more_rows = more_rows
        self.flow = flow
        self.dense = dense
        self.column_gap = column_gap
        self.row_gap = row_gap
        self.justify = justify
        self.align = align
        self.items_justify = items_justify
        self.items_align = items_align

    def __eq__(self, other):
        return (
            isinstance(other, Grid)
            and self.columns == other.columns
            and self.rows == other.rows
            and self.fields == other.fields
            and self.more_columns == other.more_columns
            and self.more_rows == other.more_rows
            and self.flow == other.flow
            and self.dense == other.dense
            and self.column_gap == other.column_gap
            and self.row_gap == other.row_gap
            and self.justify == other.justify
            and self.align == other.align
            and self.items_justify == other.items_justify
            and self.items_align == other.items_align
        )


class Item:
    """A content, and what is told of its place and its box."""

    def __init__(self, content, *, order=0, column=(None, None), row=(None, None), margins=(0, 0, 0, 0),
                 width=None, height=None, least_width=None, greatest_width=None,
                 least_height=None, greatest_height=None, justify=None, align=None):
        check_item("content", isinstance(content, (Words, Block, Page)))
        check_item("order", is_integer(order))
        check_item("column", are_edges(column))
        check_item("row", are_edges(row))
        check_item("margins", are_margins(margins))
        check_item("width", is_told_length(width))
        check_item("height", is_told_length(height))
        check_item("least_width", is_told_length(least_width))
        check_item("greatest_width", is_told_length(greatest_width))
        check_item("least_height", is_told_length(least_height))
        check_item("greatest_height", is_told_length(greatest_height))
        check_item("justify", justify is None or is_word(justify, WAYS_ACROSS))
        check_item("align", align is None or is_word(align, WAYS_DOWN))
        self.content = content
        self.order = order
        self.column = column
        self.row = row
        self.margins = margins
        self.width = width
        self.height = height
        self.least_width = least_width
        self.greatest_width = greatest_width
        self.least_height = least_height
        self.greatest_height = greatest_height
        self.justify = justify
        self.align = align

    def __eq__(self, other):
        return (
            isinstance(other, Item)
            and self.content == other.content
            and self.order == other.order
            and self.column == other.column
            and self.row == other.row
            and self.margins == other.margins
            and self.width == other.width
            and self.height == other.height
            and self.least_width == other.least_width
            and self.greatest_width == other.greatest_width
            and self.least_height == other.least_height
            and self.greatest_height == other.greatest_height
            and self.justify == other.justify
            and self.align == other.align
        )


class Page:
    """A grid and the items in it."""

    def __init__(self, grid, members=()):
        if not isinstance(grid, Grid):
            raise NoPage("grid", -1)
        if not isinstance(members, (list, tuple)) or len(members) > MOST_MEMBERS:
            raise NoPage("members", -1)
        for index, member in enumerate(members):
            if not may_be_member(grid, member):
                raise NoPage("members", index)
        self.grid = grid
        self.members = tuple(members)

    def __eq__(self, other):
        return isinstance(other, Page) and self.grid == other.grid and self.members == other.members


def check_grid(part, is_right):
    """Raise NoGrid with this part unless it is right."""
    if not is_right:
        raise NoGrid(part, -1)


def check_fields(fields):
    """Raise NoGrid if these are no fields."""
    index = wrong_field_row(fields)
    if index is not None:
        raise NoGrid("fields", index)


def check_further_sizes(part, sizes):
    """Raise NoGrid with this part if these are no sizes of further lanes."""
    if not isinstance(sizes, tuple) or not 1 <= len(sizes) <= MOST_FURTHER_SIZES:
        raise NoGrid(part, -1)
    for index, size in enumerate(sizes):
        if not is_size(size):
            raise NoGrid(part, index)


def check_item(part, is_right):
    """Raise NoItem with this part unless it is right."""
    if not is_right:
        raise NoItem(part)


def are_margins(value):
    """Tell whether a value is a tuple of four NUMBERS."""
    return isinstance(value, tuple) and len(value) == 4 and all([is_number(margin) for margin in value])


def is_told_length(value):
    """Tell whether a value is a LENGTH, or None for none told."""
    return value is None or is_length(value)


def may_be_member(grid, member):
    """Tell whether a value is an Item that inherits no lanes which a page with this grid inherits, too."""
    if not isinstance(member, Item):
        return False
    if not isinstance(member.content, Page):
        return True
    inner = member.content.grid
    if is_inherited(grid.columns) and is_inherited(inner.columns):
        return False
    return not (is_inherited(grid.rows) and is_inherited(inner.rows))
