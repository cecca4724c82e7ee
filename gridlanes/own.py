"""How wide the contents of items are by themselves, pages among them, and what they ask of columns."""

from gridlanes.contents import least_width, most_width
from gridlanes.contributions import margins_of
from gridlanes.crossings import crossed, crossing_of, inherited_crossings, lanes_in, sized
from gridlanes.errors import NoPage
from gridlanes.pages import Page
from gridlanes.reckoning import with_gaps
from gridlanes.sheets import inner_sheet, item_inherits, outermost, walked_in


def check_page(page):
    """Raise NoPage if this is no Page."""
    if not isinstance(page, Page):
        raise NoPage("page", -1)


def content_widths(walked, index):
    """Return the own least and most width of the content of an item."""
    content = walked.sheet.page.members[index].content
    if isinstance(content, Page):
        return sheet_widths(inner_sheet(walked, index))
    return (least_width(content), most_width(content))


def item_crossings(walked, index, lanes):
    """Return the list of the crossings that an item makes in columns."""
    item = walked.sheet.page.members[index]
    span = crossed(walked, index, "column", lanes)
    if not item_inherits(item, "column"):
        return [crossing_of(item, "column", lanes, span, content_widths(walked, index), margins_of(item, "column"))]
    inner = walked_in(inner_sheet(walked, index), None, None)
    owns = [content_widths(inner, inner_index) for inner_index in range(len(inner.areas))]
    return inherited_crossings(item, "column", lanes, span, inner, owns, [0 for _ in owns])


def column_crossings(walked, lanes):
    """Return the list of all crossings of columns."""
    crossings = []
    for index in range(len(walked.areas)):
        crossings.extend(item_crossings(walked, index, lanes))
    return crossings


def sheet_widths(sheet):
    """Return the own least and most width of a page whose columns are its own."""
    if sheet.widths is None:
        walked = walked_in(sheet, None, None)
        lanes = lanes_in(walked, "column", None)
        crossings = column_crossings(walked, lanes)
        least, most = [with_gaps(sized(lanes, crossings, room, False), lanes.gap) for room in ("least", "most")]
        sheet.widths = (least, most)
    return sheet.widths


def own_widths(page):
    """Return the own least and most width of a page."""
    check_page(page)
    return sheet_widths(outermost(page))
