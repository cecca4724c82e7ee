"""How a page is laid out: boxes across, what they ask of rows, rows, and boxes down.

A page in an item is laid out in its turn, so that functions here call one another for it.
"""

from gridlanes.aligned import inherited_places, placed_lanes, stretch_of
from gridlanes.axes import asked_gap
from gridlanes.contents import Block, Words, height_of
from gridlanes.contributions import held, margins_in, margins_of
from gridlanes.crossings import crossed, crossing_of, difference, half, inherited_crossings, lanes_in, sized
from gridlanes.errors import NoNumber
from gridlanes.own import check_page, column_crossings, content_widths
from gridlanes.pages import Page
from gridlanes.reckoning import greater, is_length, lesser, minus, plus, with_gaps
from gridlanes.repeats import gap_in
from gridlanes.sheets import inner_sheet, item_inherits, lanes_of_item, outermost, walked_in
from gridlanes.templates import has_part, is_part


class Across:
    """A page in a width: its columns and boxes, tuples (start, size), and what is found out about its items once."""

    def __init__(self, walked, width, columns):
        self.walked = walked
        self.width = width
        self.columns = columns
        self.boxes = [box_across(walked, columns, index) for index in range(len(walked.areas))]
        self.heights = None
        self.shims = None
        self.own_rows = None


class Laid:
    """A page that is laid out: its rows and its boxes down, tuples (start, size), and the pages in it so far."""

    def __init__(self, across, height, rows):
        self.across = across
        self.height = height
        self.rows = rows
        self.boxes = [box_down(across, rows, index) for index in range(len(across.boxes))]
        self.inner = {}


def shift(way, room, size):
    """Return how far from the start a box of a size stands in a room."""
    if way == "end":
        return minus(room, size)
    if way == "center":
        return half(minus(room, size))
    return 0


def column_stretch(walked, columns, index):
    """Return where the area of an item begins across, and its width."""
    return stretch_of(columns, walked.ends[0][0], lanes_of_item(walked, index, "column"))


def row_stretch(walked, rows, index):
    """Return where the area of an item begins down, and its height."""
    return stretch_of(rows, walked.ends[1][0], lanes_of_item(walked, index, "row"))


def box_width(walked, index, way, room):
    """Return the width of the box of an item in a room across."""
    item = walked.sheet.page.members[index]
    if item.width is not None:
        return held(item, "column", item.width)
    if way == "stretch":
        return held(item, "column", greater(room, 0))
    least, most = content_widths(walked, index)
    return held(item, "column", lesser(most, greater(least, room)))


def box_across(walked, columns, index):
    """Return where the box of an item begins across, and its width."""
    item = walked.sheet.page.members[index]
    start, size = column_stretch(walked, columns, index)
    begin = plus(start, margins_in(item, "column")[0])
    room = minus(size, margins_of(item, "column"))
    if item_inherits(item, "column"):
        return (begin, greater(room, 0))
    way = walked.sheet.page.grid.items_justify if item.justify is None else item.justify
    width = box_width(walked, index, way, room)
    return (plus(begin, shift(way, room, width)), width)


def check_told(page, width, height):
    """Raise an error if these are no page, no width, or no height or None."""
    check_page(page)
    if not is_length(width):
        raise NoNumber("width")
    if height is not None and not is_length(height):
        raise NoNumber("height")


def sized_columns(walked, width):
    """Return the columns of a page in a width, if they are its own."""
    grid = walked.sheet.page.grid
    lanes = lanes_in(walked, "column", width)
    sizes = sized(lanes, column_crossings(walked, lanes), width, grid.justify == "stretch")
    return placed_lanes(lanes, sizes, width, grid.justify)


def across_of(sheet, width, height, inherited):
    """Return a page in a width, and in a height or None; inherited are the places of columns that are not its own."""
    walked = walked_in(sheet, width, height)
    key = (walked.counts, width, inherited)
    if key not in sheet.kept_across:
        columns = sized_columns(walked, width) if inherited is None else inherited
        sheet.kept_across[key] = Across(walked, width, columns)
    return sheet.kept_across[key]


def inner_columns(across, index):
    """Return the columns that a page inherits which is the content of an item, None if it has its own."""
    walked = across.walked
    item = walked.sheet.page.members[index]
    if not item_inherits(item, "column"):
        return None
    first, behind = lanes_of_item(walked, index, "column")
    outer_first = walked.ends[0][0]
    gap = gap_in(walked.sheet.page.grid, "column", across.width)
    places = across.columns[first - outer_first:behind - outer_first]
    return inherited_places(item, "column", places, difference(item.content.grid, "column", gap))


def inner_across(across, index, height):
    """Return the page that is the content of an item, in the width of its box."""
    sheet = inner_sheet(across.walked, index)
    return across_of(sheet, across.boxes[index][1], height, inner_columns(across, index))


def content_height(across, index):
    """Return the height that the content of an item has in the width of its box; None if it inherits its rows."""
    item = across.walked.sheet.page.members[index]
    if item_inherits(item, "row"):
        return None
    if isinstance(item.content, Page):
        return own_height_in(inner_across(across, index, None))
    return height_of(item.content, across.boxes[index][1])


def content_heights(across):
    """Return the list of the heights of the contents of all items."""
    if across.heights is None:
        across.heights = [content_height(across, index) for index in range(len(across.boxes))]
    return across.heights


def way_down(across, index):
    """Return the way down of an item; None if it fills rows that it hands on."""
    page = across.walked.sheet.page
    item = page.members[index]
    if item_inherits(item, "row"):
        return None
    return page.grid.items_align if item.align is None else item.align


def told_height(item):
    """Return the height of an item, held, None if it has none."""
    return None if item.height is None else held(item, "row", item.height)


def base_of(across, index):
    """Return how far the first baseline of the content of an item lies below the top of its box.

    A page is laid out in the height of the item, or for none.
    """
    item = across.walked.sheet.page.members[index]
    if isinstance(item.content, Words):
        return item.content.base if len(item.content.widths) > 0 else 0
    if isinstance(item.content, Block):
        return item.content.height
    height = told_height(item)
    return first_baseline_in(laid_in(inner_across(across, index, height), height, None))


def shims_in(across):
    """Return the list of the shims of all items."""
    if across.shims is None:
        sums = {}
        for index, item in enumerate(across.walked.sheet.page.members):
            if way_down(across, index) == "baseline":
                sums[index] = plus(item.margins[0], base_of(across, index))
        greatest_sums = {}
        for index, reached in sums.items():
            row = across.walked.areas[index][2]
            greatest_sums[row] = greater(greatest_sums.get(row, reached), reached)
        across.shims = [0 for _ in across.boxes]
        for index, reached in sums.items():
            across.shims[index] = minus(greatest_sums[across.walked.areas[index][2]], reached)
    return across.shims


def owns_down(across):
    """Return the list of the own least and most height of the contents of all items."""
    return [(height, height) for height in content_heights(across)]


def row_crossings(across, lanes):
    """Return the list of all crossings of rows."""
    walked = across.walked
    owns = owns_down(across)
    shims = shims_in(across)
    crossings = []
    for index, item in enumerate(walked.sheet.page.members):
        span = crossed(walked, index, "row", lanes)
        if item_inherits(item, "row"):
            inner = inner_across(across, index, None)
            inner_owns = owns_down(inner)
            crossings.extend(inherited_crossings(item, "row", lanes, span, inner.walked, inner_owns, shims_in(inner)))
        else:
            margins = plus(margins_of(item, "row"), shims[index])
            crossings.append(crossing_of(item, "row", lanes, span, owns[index], margins))
    return crossings


def rows_sized(across, lanes, room):
    """Return the sizes of rows in a room."""
    is_stretched = across.walked.sheet.page.grid.align == "stretch"
    return sized(lanes, row_crossings(across, lanes), room, is_stretched)


def own_rows_in(across):
    """Return the rows of a page without a height, and their sizes."""
    if across.own_rows is None:
        lanes = lanes_in(across.walked, "row", None)
        across.own_rows = (lanes, rows_sized(across, lanes, "most"))
    return across.own_rows


def own_height_in(across):
    """Return the own height of a page whose rows are its own."""
    lanes, sizes = own_rows_in(across)
    return with_gaps(sizes, lanes.gap)


def has_parts(grid, lanes):
    """Tell whether the gap of rows or one of their sizes is told as a part."""
    return is_part(asked_gap(grid, "row")) or any([has_part(size) for size in lanes.sizes])


def row_work(across, height):
    """Return the rows of a page and the room in which they are sized the last time; height may be None."""
    if height is None:
        lanes, _ = own_rows_in(across)
        if not has_parts(across.walked.sheet.page.grid, lanes):
            return (lanes, "most")
        height = own_height_in(across)
    return (lanes_in(across.walked, "row", height), height)


def placed_rows(across, height):
    """Return the height of a page whose rows are its own, and these rows; height may be None."""
    lanes, room = row_work(across, height)
    if isinstance(room, str):
        lanes, sizes = own_rows_in(across)
        room = own_height_in(across)
    else:
        sizes = rows_sized(across, lanes, room)
    return (room, placed_lanes(lanes, sizes, room, across.walked.sheet.page.grid.align))


def laid_in(across, height, inherited):
    """Return a page that is laid out in a height, or None; inherited are the places of rows that are not its own."""
    if inherited is not None:
        return Laid(across, height, inherited)
    room, rows = placed_rows(across, height)
    return Laid(across, room, rows)


def box_down(across, rows, index):
    """Return where the box of an item begins down, and its height."""
    item = across.walked.sheet.page.members[index]
    start, size = row_stretch(across.walked, rows, index)
    begin = plus(plus(start, item.margins[0]), shims_in(across)[index])
    room = minus(size, margins_of(item, "row"))
    way = way_down(across, index)
    if way is None:
        return (begin, greater(room, 0))
    height = told_height(item)
    if height is None:
        height = held(item, "row", greater(room, 0) if way == "stretch" else content_heights(across)[index])
    return (plus(begin, shift(way, room, height)), height)


def inner_rows(laid, index):
    """Return the rows that a page inherits which is the content of an item, None if it has its own."""
    walked = laid.across.walked
    item = walked.sheet.page.members[index]
    if not item_inherits(item, "row"):
        return None
    first, behind = lanes_of_item(walked, index, "row")
    outer_first = walked.ends[1][0]
    gap = gap_in(walked.sheet.page.grid, "row", laid.height)
    places = laid.rows[first - outer_first:behind - outer_first]
    return inherited_places(item, "row", places, difference(item.content.grid, "row", gap))


def inner_laid(laid, index):
    """Return the page that is the content of an item, laid out in its box."""
    if index not in laid.inner:
        item = laid.across.walked.sheet.page.members[index]
        height = None
        if item.height is not None or way_down(laid.across, index) in (None, "stretch"):
            height = laid.boxes[index][1]
        laid.inner[index] = laid_in(inner_across(laid.across, index, height), height, inner_rows(laid, index))
    return laid.inner[index]


def first_baseline_in(laid):
    """Return the first baseline of a page that is laid out."""
    across = laid.across
    members = across.walked.sheet.page.members
    if len(members) == 0:
        return laid.height
    areas = across.walked.areas
    first = min([area[2] for area in areas])
    starting = [index for index, area in enumerate(areas) if area[2] == first]
    for index in starting:
        if way_down(across, index) == "baseline":
            return plus(laid.boxes[index][0], base_of(across, index))
    index = min(starting, key=lambda one: (areas[one][0], members[one].order, one))
    if isinstance(members[index].content, Page):
        return plus(laid.boxes[index][0], first_baseline_in(inner_laid(laid, index)))
    return plus(laid.boxes[index][0], base_of(across, index))


def lay_inner_pages(laid):
    """Lay out all pages in a page that is laid out."""
    for index, item in enumerate(laid.across.walked.sheet.page.members):
        if isinstance(item.content, Page):
            lay_inner_pages(inner_laid(laid, index))


def laid_page(page, width, height):
    """Return a page that is laid out with all pages in it, and is in no item itself."""
    laid = laid_in(across_of(outermost(page), width, height, None), height, None)
    lay_inner_pages(laid)
    return laid
