"""Pages of which one length varies, for the tests to look at number by number."""

from fractions import Fraction

from gridlanes.errors import NoPath
from gridlanes.layouts import layout
from gridlanes.pages import Page
from gridlanes.paths import length_at, with_length
from tests.literal_lanes import fraction, number

ITEM_SIZES = ("width", "height", "least_width", "greatest_width", "least_height", "greatest_height")
LITTLE = Fraction(1, 10 ** 9)


def paths_within(value, path):
    """All paths from a value on that may lead to a length, and others."""
    if isinstance(value, tuple):
        for index, inner in enumerate(value):
            yield (*path, index)
            yield from paths_within(inner, (*path, index))
    elif not isinstance(value, (int, str, type(None))):
        for name, inner in vars(value).items():
            yield (*path, name)
            yield from paths_within(inner, (*path, name))


def length_paths(page):
    """The paths of a page that lead to lengths and margins."""
    found = []
    for path in paths_within(page, ()):
        try:
            length_at(page, path)
            found.append(path)
        except NoPath:
            pass
    return found


def with_value(page, vary, value, width, height):
    """The page, the width and the height if what varies has a value."""
    if isinstance(vary, tuple):
        return with_length(page, vary, value), width, height
    return page, (value if vary == "width" else width), (value if vary == "height" else height)


def placed(found, page, left=0, top=0):
    """The boxes of a layout in places of the whole page."""
    boxes = []
    for (x, y, wide, tall), inner, item in zip(found.boxes, found.inner, page.members):
        x, y = fraction(left) + fraction(x), fraction(top) + fraction(y)
        boxes.append((number(x), number(y), wide, tall))
        if isinstance(item.content, Page):
            boxes += placed(inner, item.content, number(x), number(y))
    return boxes


def look(page, vary, value, width=None, height=None):
    """The size and the boxes of a page if what varies has a value, as a list of tuples."""
    page, width, height = with_value(page, vary, value, width, height)
    found = layout(page, width, height)
    return [(found.width, found.height), *placed(found, page)]


def told(piece, value):
    """The size and the boxes that a piece tells for a value."""
    value = fraction(value)
    return [tuple(number(fraction(one) + fraction(each) * value) for one, each in forms) for forms in (piece[4], *piece[5])]


def is_point(piece):
    return piece[0] == piece[2]


def values_in(piece):
    """Some numbers in a piece: its ends, if they are in it, numbers a little within them, and some between."""
    start = fraction(piece[0])
    if is_point(piece):
        return [piece[0]]
    end = start + 1000 if piece[2] is None else fraction(piece[2])
    values = [start + LITTLE * (end - start), (2 * start + end) / 3, (start + end) / 2, end - LITTLE * (end - start)]
    values += [start] * piece[1] + [end] * piece[3]
    if piece[2] is None:
        values.append(start + 10 ** 12)
    return [number(value) for value in values]


def check_pieces(case, found, low, high, look_at):
    """Check pieces from low to high against what a page looks like: all that [74] and [75] tell of them."""
    case.assertEqual((found[0][:2], found[-1][2:4]), ((low, True), (high, high is not None)))
    for ahead, behind in zip(found, found[1:]):
        case.assertEqual((ahead[2], ahead[3]), (behind[0], not behind[1]))
        case.assertNotEqual(ahead[4:], behind[4:])
    for index, piece in enumerate(found):
        for value in values_in(piece):
            case.assertEqual(repr(told(piece, value)), repr(look_at(value)), (piece, value))
        case.assertEqual([part.__class__ for part in piece], [piece[0].__class__, bool, piece[2].__class__, bool, tuple, tuple])
        if is_point(piece):
            case.assertTrue(piece[1] and piece[3])
            case.assertTrue(all(each == 0 for forms in (piece[4], *piece[5]) for _, each in forms))
        # A number stands with the stretch ahead if that tells it, otherwise with the one behind if that does.
        if index > 0 and piece[1]:
            case.assertNotEqual(told(found[index - 1], piece[0]), look_at(piece[0]), piece)
        if index + 1 < len(found) and is_point(piece):
            case.assertNotEqual(told(found[index + 1], piece[0]), look_at(piece[0]), piece)
