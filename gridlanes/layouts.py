"""Layouts: where the columns, the rows and the boxes of a page lie, and those of the pages in it."""

from gridlanes.boxes import boxes_of
from gridlanes.laying import check_told, inner_laid, laid_page
from gridlanes.pages import Page


class Layout:
    """What a page looks like in a width and a height; inner has the Layouts of pages in it, otherwise None."""

    def __init__(self, width, height, columns, rows, boxes, inner):
        self.width = width
        self.height = height
        self.columns = columns
        self.rows = rows
        self.boxes = boxes
        self.inner = inner

    def __eq__(self, other):
        return (
            isinstance(other, Layout)
            and self.width == other.width
            and self.height == other.height
            and self.columns == other.columns
            and self.rows == other.rows
            and self.boxes == other.boxes
            and self.inner == other.inner
        )


def layout_of(laid):
    """Return the Layout of a page that is laid out."""
    inner = []
    for index, item in enumerate(laid.across.walked.sheet.page.members):
        inner.append(layout_of(inner_laid(laid, index)) if isinstance(item.content, Page) else None)
    across = laid.across
    return Layout(across.width, laid.height, list(across.columns), list(laid.rows), boxes_of(laid), inner)


def layout(page, width, height=None):
    """Return the Layout of a page in a width, and in a height if one is told."""
    check_told(page, width, height)
    return layout_of(laid_page(page, width, height))
