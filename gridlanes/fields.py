"""Fields: the named rectangles that rows of words tell."""

from gridlanes.names import is_name

NO_FIELD = "."
MOST_FIELD_ROWS = 20
MOST_FIELD_COLUMNS = 20


def is_field_word(value):
    """Tell whether a value may be the word of a cell."""
    return is_name(value) or (isinstance(value, str) and value == NO_FIELD)


def is_field_row(value):
    """Tell whether a value is a row of words."""
    if not isinstance(value, tuple) or not 1 <= len(value) <= MOST_FIELD_COLUMNS:
        return False
    return all([is_field_word(word) for word in value])


def field_cells(fields):
    """Return a dict with the list of the cells (row, column) of each name."""
    cells = {}
    for row, words in enumerate(fields):
        for column, word in enumerate(words):
            if word != NO_FIELD:
                cells.setdefault(word, []).append((row, column))
    return cells


def is_rectangle(cells):
    """Tell whether cells, each told once, fill the least rectangle around them."""
    rows = [row for row, column in cells]
    columns = [column for row, column in cells]
    return (max(rows) - min(rows) + 1) * (max(columns) - min(columns) + 1) == len(cells)


def wrong_field_row(fields):
    """Return what is wrong with fields: -1 or the index of a row, as NoGrid tells it, None if nothing is."""
    if not isinstance(fields, tuple) or len(fields) > MOST_FIELD_ROWS:
        return -1
    for index, row in enumerate(fields):
        if not is_field_row(row) or len(row) != len(fields[0]):
            return index
    cells = field_cells(fields)
    # Each name is judged once: a name may stand in every cell.
    wrong = {name: True for name in cells if not is_rectangle(cells[name])}
    for index, row in enumerate(fields):
        if any([word in wrong for word in row]):
            return index
    return None
