"""Layouts as plain values."""

from gridlanes.layouts import layout


def everything(found):
    """(height, columns, rows, boxes, inner): the same as of tests.literal_pages."""
    inner = [None if one is None else everything(one) for one in found.inner]
    return (found.height, found.columns, found.rows, found.boxes, inner)


def laid_out(page, width, height=None):
    return everything(layout(page, width, height))


def columns_of(page, width, height=None):
    return laid_out(page, width, height)[1]


def rows_of(page, width, height=None):
    return laid_out(page, width, height)[2]


def boxes_of(page, width, height=None):
    return laid_out(page, width, height)[3]


def inner_of(page, width, height=None):
    return laid_out(page, width, height)[4]
