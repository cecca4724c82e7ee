"""Pages where they stand: their lines, the walks in them, and the pages in them."""

from gridlanes.axes import AXES, inherits
from gridlanes.lines import Lines, inherited_lines, told_lines
from gridlanes.pages import Page
from gridlanes.repeats import fitting_repeats
from gridlanes.walks import check_ends, walk_page


class Sheet:
    """A page where it stands, and what has been found out about it there.

    names has for each axis the names that its inherited lines have from outside, a tuple for each line, or None if the
    lanes are its own. What is found out once is kept: walks by their counts, sheets of pages in it, both own widths,
    and boxes across by what these hang on.
    """

    def __init__(self, page, column_names, row_names):
        self.page = page
        self.names = {"column": column_names, "row": row_names}
        self.walks = {}
        self.inner = {}
        self.widths = None
        self.kept_across = {}


class Walked:
    """A sheet and where its items lie, for counts by which fills and fits repeat."""

    def __init__(self, sheet, counts, lines, areas, ends):
        self.sheet = sheet
        self.counts = counts
        self.lines = lines
        self.areas = areas
        self.ends = ends


def outermost(page):
    """Return the sheet of a page that is in no item: an inherited template counts as ()."""
    return Sheet(page, None, None)


def in_axis(pair, axis):
    """Return that item of a pair which is told of an axis."""
    return pair[0] if axis == "column" else pair[1]


def lines_in(sheet, axis, count):
    """Return the lines of an axis of a sheet."""
    names = sheet.names[axis]
    if names is None:
        return Lines(told_lines(sheet.page.grid, axis, count), False)
    return Lines(inherited_lines(sheet.page.grid, axis, names), True)


def walked_in(sheet, width, height):
    """Return where the items of a sheet lie, for a width and a height of its page, or None for these."""
    grid = sheet.page.grid
    counts = (fitting_repeats(grid, "column", width), fitting_repeats(grid, "row", height))
    if counts not in sheet.walks:
        lines = tuple([lines_in(sheet, axis, count) for axis, count in zip(AXES, counts)])
        areas, ends = walk_page(sheet.page, lines[0], lines[1])
        check_ends(ends)
        sheet.walks[counts] = Walked(sheet, counts, lines, areas, ends)
    return sheet.walks[counts]


def lanes_of_item(walked, index, axis):
    """Return the first lane of an item in an axis, and the one behind its last one."""
    area = walked.areas[index]
    return area[:2] if axis == "column" else area[2:]


def item_inherits(item, axis):
    """Tell whether the lanes of an item are handed on to a page that is its content."""
    return isinstance(item.content, Page) and inherits(item.content.grid, axis)


def names_for_inner(walked, index, axis):
    """Return the names that lines have for a page in an item, or None if this page has lanes of its own."""
    if not item_inherits(walked.sheet.page.members[index], axis):
        return None
    first, behind = lanes_of_item(walked, index, axis)
    names = in_axis(walked.lines, axis).names
    return tuple([tuple(names[line]) if 0 <= line < len(names) else () for line in range(first, behind + 1)])


def inner_sheet(walked, index):
    """Return the sheet of the page that is the content of an item."""
    sheet = walked.sheet
    key = (index, names_for_inner(walked, index, "column"), names_for_inner(walked, index, "row"))
    if key not in sheet.inner:
        sheet.inner[key] = Sheet(sheet.page.members[index].content, key[1], key[2])
    return sheet.inner[key]
