"""Paths: which lengths of a page there are, and pages with another length at one of them."""

from gridlanes.contents import Block, Words
from gridlanes.errors import NoPath
from gridlanes.names import is_marked
from gridlanes.pages import Grid, Item, Page
from gridlanes.reckoning import is_integer, is_length, is_number
from gridlanes.templates import is_inherited

# Kinds of what a path comes by. A path ends at a NUMBER that is of one of the last two.
ENTRIES = "entries"
MEMBERS = "members"
MARGINS = "margins"
LENGTHS = "lengths"
OBJECT = "object"
LENGTH = "length"
MARGIN = "margin"


def kind_of_items(kind):
    """Return the kind of the items of a tuple of a kind."""
    if kind == MARGINS:
        return MARGIN
    return OBJECT if kind == MEMBERS else LENGTH


def grid_parts(grid):
    """Return a dict of all that a Grid is made of."""
    return {
        "columns": grid.columns,
        "rows": grid.rows,
        "fields": grid.fields,
        "more_columns": grid.more_columns,
        "more_rows": grid.more_rows,
        "flow": grid.flow,
        "dense": grid.dense,
        "column_gap": grid.column_gap,
        "row_gap": grid.row_gap,
        "justify": grid.justify,
        "align": grid.align,
        "items_justify": grid.items_justify,
        "items_align": grid.items_align,
    }


def item_parts(item):
    """Return a dict of all that an Item is made of."""
    return {
        "content": item.content,
        "order": item.order,
        "column": item.column,
        "row": item.row,
        "margins": item.margins,
        "width": item.width,
        "height": item.height,
        "least_width": item.least_width,
        "greatest_width": item.greatest_width,
        "least_height": item.least_height,
        "greatest_height": item.greatest_height,
        "justify": item.justify,
        "align": item.align,
    }


def parts_of(thing):
    """Return a dict of all that an object of pages or contents is made of."""
    if isinstance(thing, Grid):
        return grid_parts(thing)
    if isinstance(thing, Item):
        return item_parts(thing)
    if isinstance(thing, Words):
        return {"widths": thing.widths, "blank": thing.blank, "line": thing.line, "base": thing.base}
    if isinstance(thing, Block):
        return {"width": thing.width, "height": thing.height}
    return {"grid": thing.grid, "members": thing.members}


def made_of(thing, parts):
    """Return an object of the class of another one, made of these parts."""
    if isinstance(thing, Grid):
        return Grid(**parts)
    if isinstance(thing, Item):
        return Item(**parts)
    if isinstance(thing, Words):
        return Words(**parts)
    return Block(**parts) if isinstance(thing, Block) else Page(**parts)


def kinds_in(thing):
    """Return a dict of the steps that lead on from an object, and of the kinds to which they lead."""
    if isinstance(thing, Grid):
        return {
            "columns": ENTRIES, "rows": ENTRIES, "more_columns": ENTRIES, "more_rows": ENTRIES,
            "column_gap": LENGTH, "row_gap": LENGTH,
        }
    if isinstance(thing, Item):
        return {
            "content": OBJECT, "margins": MARGINS, "width": LENGTH, "height": LENGTH, "least_width": LENGTH,
            "greatest_width": LENGTH, "least_height": LENGTH, "greatest_height": LENGTH,
        }
    if isinstance(thing, Words):
        return {"widths": LENGTHS, "blank": LENGTH, "line": LENGTH, "base": LENGTH}
    if isinstance(thing, Block):
        return {"width": LENGTH, "height": LENGTH}
    return {"grid": OBJECT, "members": MEMBERS}


def kinds_in_entry(entry):
    """Return a dict of the steps that lead on from an entry of a template, and of the kinds to which they lead."""
    if is_marked(entry, "between", 3):
        return {1: LENGTH, 2: LENGTH}
    if is_marked(entry, "upto", 2):
        return {1: LENGTH}
    if is_marked(entry, "repeat", 3):
        return {2: ENTRIES}
    if is_marked(entry, "fill", 2) or is_marked(entry, "fit", 2):
        return {1: ENTRIES}
    return {}


def steps_from(kind, value):
    """Return a dict of the steps that lead on from a value, and of the kinds to which they lead."""
    if kind == OBJECT:
        return kinds_in(value)
    if kind == LENGTH:
        return kinds_in_entry(value)
    if kind == MARGIN or (kind == ENTRIES and is_inherited(value)):
        return {}
    return {index: kind_of_items(kind) for index in range(len(value))}


def is_step(value):
    """Tell whether a value may be a step."""
    return isinstance(value, str) or is_integer(value)


def part_at(kind, value, step):
    """Return what a step leads to."""
    return parts_of(value)[step] if kind == OBJECT else value[step]


def path_end(page, path):
    """Return the kind and the value to which a path leads; raise NoPath if it does not lead on somewhere."""
    if not isinstance(page, Page) or not isinstance(path, tuple):
        raise NoPath(path)
    kind = OBJECT
    value = page
    for step in path:
        steps = steps_from(kind, value)
        if not is_step(step) or step not in steps:
            raise NoPath(path)
        value = part_at(kind, value, step)
        kind = steps[step]
    if (kind == MARGIN and is_number(value)) or (kind == LENGTH and is_length(value)):
        return (kind, value)
    raise NoPath(path)


def is_allowed_at(page, path, value):
    """Tell whether a value may stand at the end of a path: a LENGTH, or any NUMBER for a margin."""
    kind, _ = path_end(page, path)
    return is_number(value) if kind == MARGIN else is_length(value)


def replaced(kind, value, steps, new):
    """Return what a value becomes if the steps from it on lead to a new number."""
    if len(steps) == 0:
        return new
    step = steps[0]
    part = replaced(steps_from(kind, value)[step], part_at(kind, value, step), steps[1:], new)
    if kind != OBJECT:
        return value[:step] + (part,) + value[step + 1:]
    parts = parts_of(value)
    parts[step] = part
    return made_of(value, parts)


def page_with(page, path, value):
    """Return a Page with another number at the end of a path that is known to be one."""
    return replaced(OBJECT, page, path, value)


def length_at(page, path):
    """Return the LENGTH, or the margin, to which a path leads."""
    _, value = path_end(page, path)
    return value


def with_length(page, path, value):
    """Return a Page with another LENGTH, or margin, at the end of a path."""
    if not is_allowed_at(page, path, value):
        raise NoPath(path)
    return page_with(page, path, value)
