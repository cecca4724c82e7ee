"""What the package finds out when it lays a page out, as plain values; layouts tell it in a later stage."""

from gridlanes.laying import inner_laid, laid_page
from gridlanes.pages import Page


def everything(laid):
    """(height, columns, rows, boxes, inner): the same as of tests.literal_pages."""
    across = laid.across
    members = across.walked.sheet.page.members
    boxes = [(x, y, width, height) for (x, width), (y, height) in zip(across.boxes, laid.boxes)]
    inner = [everything(inner_laid(laid, index)) if isinstance(member.content, Page) else None
             for index, member in enumerate(members)]
    return (laid.height, list(across.columns), list(laid.rows), boxes, inner)


def laid_out(page, width, height=None):
    return everything(laid_page(page, width, height))


def columns_of(page, width, height=None):
    return laid_out(page, width, height)[1]


def rows_of(page, width, height=None):
    return laid_out(page, width, height)[2]


def boxes_of(page, width, height=None):
    return laid_out(page, width, height)[3]


def inner_of(page, width, height=None):
    return laid_out(page, width, height)[4]
