"""Templates written out: repeats as often as they tell, a fill or fit as often as is asked for."""

from gridlanes.axes import field_lanes, template_of
from gridlanes.names import is_marked


def is_names(entry):
    """Tell whether an entry of a template has the names of a line."""
    return is_marked(entry, "names", 2)


def is_fill(entry):
    """Tell whether an entry of a template is its fill or fit."""
    return is_marked(entry, "fill", 2) or is_marked(entry, "fit", 2)


def filler_of(template):
    """Return the fill or fit of a template, None if it has neither."""
    for entry in template:
        if is_fill(entry):
            return entry
    return None


def inner_sizes(entries):
    """Return the list of the sizes among entries that are no repeats."""
    return [entry for entry in entries if not is_names(entry)]


def written_entries(template, count):
    """Return the list of the sizes and the names of a template, a fill or fit so many times."""
    entries = []
    for entry in template:
        if is_marked(entry, "repeat", 3):
            entries.extend(entry[2] * entry[1])
        elif is_fill(entry):
            entries.extend(entry[1] * count)
        else:
            entries.append(entry)
    return entries


def written_sizes(template, count):
    """Return the list of the sizes of a template, those of a fill or fit so many times."""
    return inner_sizes(written_entries(template, count))


def filled_lanes(template, count):
    """Return how many lanes a template has, for a count of any greatness."""
    filler = filler_of(template)
    if filler is None:
        return len(written_sizes(template, 0))
    return len(written_sizes(template, 0)) + count * len(inner_sizes(filler[1]))


def told_lanes(grid, axis, count):
    """Return how many lanes of an axis are told, by its template or by the fields."""
    return max(filled_lanes(template_of(grid, axis), count), field_lanes(grid, axis))
