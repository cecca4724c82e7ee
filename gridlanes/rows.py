"""Rows: the own height of a page, the areas of items, shims and the first baseline."""

from gridlanes.errors import NoNumber
from gridlanes.laying import (
    across_of, column_stretch, first_baseline_in, laid_page, own_height_in, row_stretch, shims_in,
)
from gridlanes.own import check_page
from gridlanes.reckoning import is_length
from gridlanes.sheets import outermost


def check_layout(page, width, height):
    """Raise an error if these are no page, no width, or no height or None."""
    check_page(page)
    if not is_length(width):
        raise NoNumber("width")
    if height is not None and not is_length(height):
        raise NoNumber("height")


def own_height(page, width):
    """Return the own height of a page in a width."""
    check_layout(page, width, None)
    return own_height_in(across_of(outermost(page), width, None, None))


def shims(page, width, height=None):
    """Return the list of the shims of all items."""
    check_layout(page, width, height)
    return list(shims_in(laid_page(page, width, height).across))


def areas(page, width, height=None):
    """Return the list of the areas of all items: tuples (x, y, width, height)."""
    check_layout(page, width, height)
    laid = laid_page(page, width, height)
    found = []
    for index in range(len(page.members)):
        x, wide = column_stretch(laid.across.walked, laid.across.columns, index)
        y, tall = row_stretch(laid.across.walked, laid.rows, index)
        found.append((x, y, wide, tall))
    return found


def first_baseline(page, width, height=None):
    """Return the first baseline of a page."""
    check_layout(page, width, height)
    return first_baseline_in(laid_page(page, width, height))
