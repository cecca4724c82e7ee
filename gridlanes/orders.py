"""What the order of the items of a page changes."""

from itertools import combinations, permutations

from gridlanes.boxes import boxes_of_members
from gridlanes.errors import NoOrder, NoPage, TooMany
from gridlanes.laying import check_told, laid_page
from gridlanes.pages import Page
from gridlanes.reckoning import is_integer

MOST_ORDERED = 5


def check_places(page, places):
    """Raise NoOrder if these are no places for the items of a page."""
    many = len(page.members)
    if not isinstance(places, (list, tuple)) or len(places) != many:
        raise NoOrder(-1)
    if not all([is_integer(place) for place in places]):
        raise NoOrder(-1)
    for index, place in enumerate(places):
        if not 0 <= place < many or place in places[:index]:
            raise NoOrder(index)


def page_in_order(page, places):
    """Return a page with the items of another one at places that are known to be right."""
    return Page(page.grid, [page.members[place] for place in places])


def reordered(page, places):
    """Return the page whose item number k is the item number places[k] of this page."""
    if not isinstance(page, Page):
        raise NoPage("page", -1)
    check_places(page, places)
    return page_in_order(page, places)


def look_of(page, width, height):
    """Return the height of a page that is laid out, and a list with the boxes of each item."""
    laid = laid_page(page, width, height)
    return (laid.height, boxes_of_members(laid, 0, 0))


def keeps_look(page, places, width, height, look):
    """Tell whether a page that looks like that keeps under places."""
    own_height, boxes = look
    return look_of(page_in_order(page, places), width, height) == (own_height, [boxes[place] for place in places])


def keeps(page, places, width, height=None):
    """Tell whether a page keeps under places: laid out in its new order it has the same size and the same boxes."""
    check_told(page, width, height)
    check_places(page, places)
    return keeps_look(page, places, width, height, look_of(page, width, height))


def orders_kept(page, width, height=None):
    """Return the ascending list of all places under which a page keeps."""
    check_told(page, width, height)
    if len(page.members) > MOST_ORDERED:
        raise TooMany(MOST_ORDERED)
    look = look_of(page, width, height)
    many = len(page.members)
    return [places for places in permutations(range(many)) if keeps_look(page, places, width, height, look)]


def exchanged(many, one, other):
    """Return the places of so many items, two of them exchanged."""
    places = list(range(many))
    places[one] = other
    places[other] = one
    return places


def first_exchange(page, width, height=None):
    """Return the least pair of indexes of items under whose exchange a page does not keep, None if there is none."""
    check_told(page, width, height)
    look = look_of(page, width, height)
    many = len(page.members)
    for one, other in combinations(range(many), 2):
        if not keeps_look(page, exchanged(many, one, other), width, height, look):
            return (one, other)
    return None
