"""Pieces: the layouts of a page for all numbers between two, told by forms."""

from gridlanes.axes import AXES, template_of
from gridlanes.boxes import placed_boxes
from gridlanes.errors import NoNumber, NoRange, TooMany
from gridlanes.growing import cuts_between
from gridlanes.laying import laid_page
from gridlanes.names import is_word
from gridlanes.own import check_page
from gridlanes.pages import Page
from gridlanes.paths import is_allowed_at, page_with, path_end
from gridlanes.reckoning import form_of, is_integer, is_length, is_more, values_at
from gridlanes.written import filler_of

SIDES = ("width", "height")


class Range:
    """What varies from low to high, and the width and the height that a page has otherwise."""

    def __init__(self, vary, low, high, width, height):
        self.vary = vary
        self.low = low
        self.high = high
        self.width = width
        self.height = height


def box_paths(page):
    """Return the list of the boxes of a page, a tuple of indexes for each."""
    paths = []
    for index, item in enumerate(page.members):
        paths.append((index,))
        if isinstance(item.content, Page):
            paths.extend([(index, *path) for path in box_paths(item.content)])
    return paths


def is_box(value, many):
    """Tell whether a value is the index of one of so many boxes."""
    return is_integer(value) and 0 <= value < many


def has_filler(page):
    """Tell whether a template of a page, or of a page in it, has a fill or fit."""
    if any([filler_of(template_of(page.grid, axis)) is not None for axis in AXES]):
        return True
    contents = [item.content for item in page.members]
    return any([isinstance(content, Page) and has_filler(content) for content in contents])


def is_side(vary):
    """Tell whether what varies is the width or the height of the page itself."""
    return is_word(vary, SIDES)


def may_be_end(page, vary, value):
    """Tell whether what varies may be a value."""
    return is_length(value) if is_side(vary) else is_allowed_at(page, vary, value)


def check_ends(page, vary, low, high):
    """Raise NoRange if these are no two ends between which something varies."""
    if not may_be_end(page, vary, low):
        raise NoRange("low")
    if high is None:
        if has_filler(page):
            raise NoRange("high")
    elif not may_be_end(page, vary, high) or is_more(low, high):
        raise NoRange("high")


def check_sides(vary, width, height):
    """Raise NoNumber if these are no sizes of a page of which another quantity may vary."""
    if not is_word(vary, ("width",)) and not is_length(width):
        raise NoNumber("width")
    if not is_word(vary, ("height",)) and height is not None and not is_length(height):
        raise NoNumber("height")


def check_range(page, vary, low, high, width, height, most):
    """Raise an error if a page cannot vary like that."""
    if is_side(vary):
        check_page(page)
    else:
        path_end(page, vary)
    check_ends(page, vary, low, high)
    check_sides(vary, width, height)
    if not is_integer(most) or most < 1:
        raise NoNumber("most")


def laid_at(page, span, value):
    """Return a page that is laid out for a value of what varies."""
    if not is_side(span.vary):
        return laid_page(page_with(page, span.vary, value), span.width, span.height)
    if span.vary == "width":
        return laid_page(page, value, span.height)
    return laid_page(page, span.width, value)


def forms_at(page, span, value):
    """Return the forms of the size of a page, and those of its boxes: a tuple with a tuple for each of these."""
    laid = laid_at(page, span, value)
    told = [(laid.across.width, laid.height)] + placed_boxes(laid)
    return tuple([tuple([form_of(number) for number in numbers]) for numbers in told])


def point_of(forms):
    """Return the numbers that forms without growth stand for."""
    return [[form[0] for form in row] for row in forms]


def numbers_at(forms, number):
    """Return the numbers to which forms come at a number."""
    return [values_at(row, number) for row in forms]


def piece_of(start, is_with_start, end, is_with_end, forms):
    """Return a piece with these forms."""
    return (start, is_with_start, end, is_with_end, forms[0], forms[1:])


def joined_pieces(cuts, end):
    """Return the list of the pieces that cuts make, as few as there can be; end is None if they have none."""
    found = []
    start, is_with_start, forms = None, False, None
    for number, point, behind in cuts:
        is_told = forms is not None and numbers_at(forms, number) == point_of(point)
        if is_told and behind == forms:
            continue
        if forms is not None:
            found.append(piece_of(start, is_with_start, number, is_told, forms))
        opens = not is_told and behind is not None and numbers_at(behind, number) == point_of(point)
        if not is_told and not opens:
            found.append(piece_of(number, True, number, True, point))
        start, is_with_start, forms = number, opens, behind
    if end is None:
        found.append(piece_of(start, is_with_start, None, False, forms))
    return found


def pieces(page, vary, low, high, *, width=None, height=None, most=200):
    """Return the list of the pieces of a page from low to high."""
    check_range(page, vary, low, high, width, height, most)
    span = Range(vary, low, high, width, height)
    found = joined_pieces(cuts_between(low, high, lambda value: forms_at(page, span, value)), high)
    if len(found) > most:
        raise TooMany(most)
    return found
