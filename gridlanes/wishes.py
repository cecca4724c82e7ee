"""Wishes about the boxes of a page, and where two pages differ, while something varies."""

from gridlanes.errors import NoWish, OtherBoxes
from gridlanes.growing import cuts_between
from gridlanes.names import is_marked, is_word
from gridlanes.pieces import box_paths, is_box, pieces
from gridlanes.reckoning import at_most, is_length, plus, value_at, values_at

DEEPEST = 4
MOST_WISHES = 20


def is_plain_wish(value, many):
    """Tell whether a value is a wish about so many boxes that has no wishes in it."""
    if is_marked(value, "inside", 1):
        return True
    if is_marked(value, "apart", 3):
        return is_box(value[1], many) and is_box(value[2], many) and value[1] != value[2]
    if is_marked(value, "wide", 3) or is_marked(value, "tall", 3):
        return is_box(value[1], many) and is_length(value[2])
    return False


def is_wish(value, many, deepest):
    """Tell whether a value is a wish about so many boxes, with wishes in one another so deep at most."""
    if deepest == 0:
        return False
    if is_plain_wish(value, many):
        return True
    if is_marked(value, "not", 2):
        return is_wish(value[1], many, deepest - 1)
    if not is_marked(value, "all", 2) and not is_marked(value, "any", 2):
        return False
    if not isinstance(value[1], tuple) or len(value[1]) > MOST_WISHES:
        return False
    return all([is_wish(wish, many, deepest - 1) for wish in value[1]])


def is_inside(box, size):
    """Tell whether a box lies within a page of a size."""
    x, y, width, height = box
    if not at_most(0, x) or not at_most(0, y):
        return False
    return at_most(plus(x, width), size[0]) and at_most(plus(y, height), size[1])


def are_apart(one, other):
    """Tell whether one of two boxes ends where the other one begins, or ahead of it, across or down."""
    for start, length in ((0, 2), (1, 3)):
        if at_most(plus(one[start], one[length]), other[start]):
            return True
        if at_most(plus(other[start], other[length]), one[start]):
            return True
    return False


def is_met(wish, piece, number):
    """Tell whether a wish holds at a number of a piece; it may be moving."""
    word = wish[0]
    boxes = piece[5]
    if word == "not":
        return not is_met(wish[1], piece, number)
    if word == "all":
        return all([is_met(inner, piece, number) for inner in wish[1]])
    if word == "any":
        return any([is_met(inner, piece, number) for inner in wish[1]])
    if word == "inside":
        size = values_at(piece[4], number)
        return all([is_inside(values_at(box, number), size) for box in boxes])
    if word == "apart":
        return are_apart(values_at(boxes[wish[1]], number), values_at(boxes[wish[2]], number))
    side = boxes[wish[1]][2 if word == "wide" else 3]
    return at_most(wish[2], value_at(side, number))


def met_stretches(wish, piece):
    """Return the list of the points and stretches of a piece in which a wish holds, ascending."""
    cuts = cuts_between(piece[0], piece[2], lambda number: is_met(wish, piece, number))
    stretches = []
    for index, (number, is_met_at, is_met_behind) in enumerate(cuts):
        if is_met_at and (number != piece[0] or piece[1]) and (number != piece[2] or piece[3]):
            stretches.append((number, True, number, True))
        if is_met_behind is True:
            behind = cuts[index + 1][0] if index + 1 < len(cuts) else None
            stretches.append((number, False, behind, False))
    return stretches


def joined_stretches(stretches):
    """Return the list of the greatest stretches that ascending stretches make."""
    found = []
    for start, is_with_start, end, is_with_end in stretches:
        if len(found) > 0 and found[-1][2] == start and (found[-1][3] or is_with_start):
            last = found.pop()
            found.append((last[0], last[1], end, is_with_end))
        else:
            found.append((start, is_with_start, end, is_with_end))
    return found


def holds(page, vary, low, high, wish, *, width=None, height=None, most=200):
    """Return the list of the greatest stretches in which a wish holds."""
    found = pieces(page, vary, low, high, width=width, height=height, most=most)
    if not is_wish(wish, len(box_paths(page)), DEEPEST):
        raise NoWish(wish)
    stretches = []
    for piece in found:
        stretches.extend(met_stretches(wish, piece))
    return joined_stretches(stretches)


def is_up_to(piece, number):
    """Tell whether a piece ends at a number, with it, or behind it; the number may be moving."""
    end = piece[2]
    if end is None:
        return True
    return at_most(number, end) and (piece[3] or number != end)


def told_at(found, number):
    """Return the size and the boxes that pieces tell at a number; it may be moving."""
    for piece in found:
        if is_up_to(piece, number):
            return [values_at(forms, number) for forms in (piece[4], *piece[5])]
    return []


def first_unlike(page, other, vary, low, high, *, other_vary=None, width=None, height=None, most=200):
    """Return (number, is_at) for where two pages first differ, None if they do nowhere."""
    if other_vary is None:
        other_vary = vary
    one_found = pieces(page, vary, low, high, width=width, height=height, most=most)
    other_found = pieces(other, other_vary, low, high, width=width, height=height, most=most)
    many = len(box_paths(page))
    other_many = len(box_paths(other))
    if many != other_many:
        raise OtherBoxes(many, other_many)
    for number, is_like, is_like_behind in cuts_between(
        low, high, lambda value: told_at(one_found, value) == told_at(other_found, value)
    ):
        if not is_like:
            return (number, True)
        if is_like_behind is False:
            return (number, False)
    return None


def first_fall(found, box, side):
    """Return (number, word) for where a side of a box first gets smaller from piece to piece, None for nowhere."""
    reached = None
    for piece in found:
        form = piece[5][box][side]
        size = value_at(form, piece[0])
        if reached is not None and not at_most(reached, size):
            return (piece[0], "jump")
        if not at_most(0, form[1]):
            return (piece[0], "bend")
        if piece[2] is not None:
            reached = value_at(form, piece[2])
    return None


def shrinks(page, vary, low, high, box, side, *, width=None, height=None, most=200):
    """Return (number, word) for where a side of a box first gets smaller, None if it does nowhere."""
    found = pieces(page, vary, low, high, width=width, height=height, most=most)
    if not is_word(side, ("wide", "tall")) or not is_box(box, len(box_paths(page))):
        raise NoWish((side, box))
    return first_fall(found, box, 2 if side == "wide" else 3)


def last_turn(page, vary, low, *, width=None, height=None, most=200):
    """Return (number, is_with_it) for the start of the last piece, which has no end."""
    last = pieces(page, vary, low, None, width=width, height=height, most=most)[-1]
    return (last[0], last[1])
