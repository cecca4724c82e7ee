"""Rows: the own height of a page, the areas of items, shims and the first baseline."""

from gridlanes.laying import (
    across_of, check_told, column_stretch, first_baseline_in, laid_page, own_height_in, row_stretch, shims_in,
)
from gridlanes.sheets import outermost


def own_height(page, width):
    """Return the own height of a page in a width."""
    check_told(page, width, None)
    return own_height_in(across_of(outermost(page), width, None, None))


def shims(page, width, height=None):
    """Return the list of the shims of all items."""
    check_told(page, width, height)
    return list(shims_in(laid_page(page, width, height).across))


def areas(page, width, height=None):
    """Return the list of the areas of all items: tuples (x, y, width, height)."""
    check_told(page, width, height)
    laid = laid_page(page, width, height)
    found = []
    for index in range(len(page.members)):
        x, wide = column_stretch(laid.across.walked, laid.across.columns, index)
        y, tall = row_stretch(laid.across.walked, laid.rows, index)
        found.append((x, y, wide, tall))
    return found


def first_baseline(page, width, height=None):
    """Return the first baseline of a page."""
    check_told(page, width, height)
    return first_baseline_in(laid_page(page, width, height))
