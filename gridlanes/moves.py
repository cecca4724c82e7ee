"""What a change of one length of a page moves."""

from gridlanes.boxes import placed_boxes
from gridlanes.errors import NoRange, NoWish
from gridlanes.laying import check_told, laid_page
from gridlanes.paths import is_allowed_at, length_at, with_length
from gridlanes.pieces import box_paths, has_filler, is_box, pieces
from gridlanes.reckoning import at_most, minus, values_at


def moved(page, path, value, width, height=None):
    """Return the list of the indexes of the boxes that are otherwise if the length at a path is another value."""
    other = with_length(page, path, value)
    check_told(page, width, height)
    boxes = placed_boxes(laid_page(page, width, height))
    other_boxes = placed_boxes(laid_page(other, width, height))
    return [index for index, box in enumerate(boxes) if box != other_boxes[index]]


def check_box(page, box):
    """Raise NoWish if this is not the index of a box."""
    if not is_box(box, len(box_paths(page))):
        raise NoWish(box)


def is_still(piece, box, due):
    """Tell whether a box has these numbers everywhere in a piece."""
    return list(piece[5][box]) == [(number, 0) for number in due]


def first_change(found, box, due, is_growing):
    """Return (number, is_at) for where a box is otherwise first, from the first piece on; None if it is nowhere.

    If what varies does not grow, but falls, the pieces stand in the order in which it comes to them.
    """
    for piece in found:
        if not is_still(piece, box, due):
            number, is_with = piece[:2] if is_growing else piece[2:4]
            return (number, is_with and values_at(piece[5][box], number) != due)
    return None


def least_move(page, path, box, *, width, height=None, limit=None, most=200):
    """Return (amount, is_at) for by how much a length may grow until a box is otherwise, None if it never is."""
    length = length_at(page, path)
    check_box(page, box)
    if limit is None:
        if has_filler(page):
            raise NoRange("limit")
    elif not is_allowed_at(page, path, limit) or not at_most(length, limit):
        raise NoRange("limit")
    found = pieces(page, path, length, limit, width=width, height=height, most=most)
    change = first_change(found, box, values_at(found[0][5][box], length), True)
    return None if change is None else (minus(change[0], length), change[1])


def least_fall(page, path, box, *, width, height=None, limit=0, most=200):
    """Return (amount, is_at) for by how much a length may fall until a box is otherwise, None if it never is."""
    length = length_at(page, path)
    check_box(page, box)
    if not is_allowed_at(page, path, limit) or not at_most(limit, length):
        raise NoRange("limit")
    found = pieces(page, path, limit, length, width=width, height=height, most=most)
    change = first_change(found[::-1], box, values_at(found[-1][5][box], length), False)
    return None if change is None else (minus(length, change[0]), change[1])
