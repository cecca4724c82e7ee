"""How space is given out to lanes: lists of amounts, one for each lane that may get some."""

from gridlanes.reckoning import at_most, greater, is_more, minus, over, plus, times, total


def given_equally(space, rooms):
    """Return how a space is given equally to lanes, to each only up to its room; None is a room without an end."""
    amounts = [0 for _ in rooms]
    takers = list(range(len(rooms)))
    left = space
    while len(takers) > 0 and is_more(left, 0):
        each = over(left, len(takers))
        full = [taker for taker in takers if rooms[taker] is not None and at_most(rooms[taker], each)]
        if len(full) == 0:
            for taker in takers:
                amounts[taker] = each
            return amounts
        for taker in full:
            amounts[taker] = rooms[taker]
            left = minus(left, rooms[taker])
        takers = [taker for taker in takers if taker not in full]
    return amounts


def given_on(space, amounts, rooms):
    """Return what lanes have that have these amounts of a space, once what is left is given up to rooms, too."""
    more = given_equally(minus(space, total(amounts)), rooms)
    return [plus(amount, another) for amount, another in zip(amounts, more)]


def given_by_shares(space, shares):
    """Return how a space is given by the numbers of shares, or equally if these are all 0."""
    whole = total(shares)
    if not is_more(whole, 0):
        return given_equally(space, [None for _ in shares])
    return [over(times(space, share), whole) for share in shares]


def room_up_to(end, size):
    """Return how much a size may grow up to an end; None for no end."""
    return None if end is None else greater(minus(end, size), 0)
