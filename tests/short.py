"""Short words for what the tests write often."""

from gridlanes.contents import Words
from gridlanes.pages import Item

HALF = (1, 2)
WORDS = Words((20, 50, 10), 5, 12, 9)
# The labels in tests.support of values that are LENGTHS, and of those that are NUMBERS.
LENGTHS = ("zero", "one", "huge", "half")
NUMBERS = (*LENGTHS, "minus one", "minus huge", "minus half")


def share(k):
    return ("share", k)


def at(column, row, content=WORDS, **named):
    """An item at told lanes: from a line on, or between two edges."""
    column = column if isinstance(column, tuple) else (column, None)
    row = row if isinstance(row, tuple) else (row, None)
    return Item(content, column=column, row=row, **named)
