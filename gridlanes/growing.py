"""What holds while a number grows: at the numbers where it changes, and between these."""

from gridlanes.reckoning import is_more, moving_from, turn_of


def cuts_between(low, high, told):
    """Return the list of the cuts from low to high: tuples (number, what holds at it, what holds behind it).

    told is called with the number, and with a moving one that comes from there; what it returns for this one holds up
    to the next cut. Nothing, None, holds behind high; if high is None, the last cut has no end.
    """
    cuts = []
    number = low
    while number is not None and (high is None or is_more(high, number)):
        held = told(number)
        moving = moving_from(number)
        cuts.append((number, held, told(moving)))
        number = turn_of(moving[3])
    if high is not None:
        cuts.append((high, told(high), None))
    return cuts
