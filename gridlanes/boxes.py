"""The boxes of a page that is laid out, with those of all pages in it, in places of the whole page."""

from gridlanes.laying import inner_laid
from gridlanes.pages import Page
from gridlanes.reckoning import plus


def boxes_of(laid):
    """Return the list of the boxes of the items alone: tuples (left, top, width, height)."""
    return [(x, y, width, height) for (x, width), (y, height) in zip(laid.across.boxes, laid.boxes)]


def boxes_of_members(laid, left, top):
    """Return a list with the list of the boxes of each item, its own and those within it.

    left and top tell where the page itself begins.
    """
    found = []
    members = laid.across.walked.sheet.page.members
    for index, (x, y, width, height) in enumerate(boxes_of(laid)):
        x = plus(x, left)
        y = plus(y, top)
        boxes = [(x, y, width, height)]
        if isinstance(members[index].content, Page):
            for inner_boxes in boxes_of_members(inner_laid(laid, index), x, y):
                boxes.extend(inner_boxes)
        found.append(boxes)
    return found


def placed_boxes(laid):
    """Return the list of all boxes of a page, those within an item directly behind its own."""
    found = []
    for boxes in boxes_of_members(laid, 0, 0):
        found.extend(boxes)
    return found
