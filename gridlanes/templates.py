"""Sizes of lanes, and the templates that are made of them."""

from gridlanes.names import are_names, is_marked, is_word
from gridlanes.reckoning import is_integer, is_length

SIZE_WORDS = ("least", "most", "auto")
MOST_REPEATS = 20
MOST_SIZES = 40
MOST_INHERITED_NAMES = 40


def is_part(value):
    """Tell whether a value is a part of the page."""
    return is_marked(value, "part", 2) and is_length(value[1])


def is_share(value):
    """Tell whether a value is a share of the space that is left."""
    return is_marked(value, "share", 2) and is_length(value[1])


def is_fixed(value):
    """Tell whether a value is a LENGTH or a part."""
    return is_length(value) or is_part(value)


def is_plain_size(value):
    """Tell whether a value may be the low of a between."""
    return is_fixed(value) or is_word(value, SIZE_WORDS)


def is_between(value):
    """Tell whether a value is a between of a low and a high."""
    if not is_marked(value, "between", 3) or not is_plain_size(value[1]):
        return False
    return is_plain_size(value[2]) or is_share(value[2])


def is_upto(value):
    """Tell whether a value is an upto with a LENGTH or a part."""
    return is_marked(value, "upto", 2) and is_fixed(value[1])


def is_size(value):
    """Tell whether a value is a SIZE."""
    return is_plain_size(value) or is_share(value) or is_between(value) or is_upto(value)


def low_of(size):
    """Return the LOW of a size."""
    if is_between(size):
        return size[1]
    if is_share(size) or is_upto(size):
        return "auto"
    return size


def high_of(size):
    """Return the HIGH of a size."""
    if is_between(size):
        return size[2]
    if is_upto(size):
        return "most"
    return size


def has_part(size):
    """Tell whether the low, the high or the cap of a size is a part."""
    if is_between(size):
        return is_part(size[1]) or is_part(size[2])
    return is_part(size) or (is_upto(size) and is_part(size[1]))


def is_names_entry(value):
    """Tell whether a value is an entry with the names of a line."""
    return is_marked(value, "names", 2) and are_names(value[1])


def are_inner_entries(value):
    """Tell whether a value may be repeated: a tuple of sizes and names with one size at least."""
    if not isinstance(value, tuple):
        return False
    for entry in value:
        if not is_size(entry) and not is_names_entry(entry):
            return False
    return any([is_size(entry) for entry in value])


def is_repeat(value):
    """Tell whether a value is an entry that repeats others so many times."""
    if not is_marked(value, "repeat", 3) or not is_integer(value[1]):
        return False
    return 1 <= value[1] <= MOST_REPEATS and are_inner_entries(value[2])


def is_filler(value):
    """Tell whether a value is a fill or a fit, that repeats others as often as there is room."""
    return (is_marked(value, "fill", 2) or is_marked(value, "fit", 2)) and are_inner_entries(value[1])


def is_entry(value):
    """Tell whether a value may be an entry of a template."""
    return is_size(value) or is_names_entry(value) or is_repeat(value) or is_filler(value)


def sizes_in(entries):
    """Return the list of the sizes in entries, repeats written out, those of a fill or fit once."""
    sizes = []
    for entry in entries:
        if is_repeat(entry):
            sizes.extend(sizes_in(entry[2]) * entry[1])
        elif is_filler(entry):
            sizes.extend(sizes_in(entry[1]))
        elif is_size(entry):
            sizes.append(entry)
    return sizes


def may_be_filled(size):
    """Tell whether a size may stand in a template with a fill or fit: its low or its high is fixed."""
    return is_fixed(low_of(size)) or is_fixed(high_of(size))


def are_entries(value):
    """Tell whether a value is a tuple of entries that make a template."""
    if not isinstance(value, tuple) or not all([is_entry(entry) for entry in value]):
        return False
    sizes = sizes_in(value)
    fillers = [entry for entry in value if is_filler(entry)]
    if len(sizes) > MOST_SIZES or len(fillers) > 1:
        return False
    return len(fillers) == 0 or all([may_be_filled(size) for size in sizes])


def is_inherited(value):
    """Tell whether a value is an inherited template."""
    if not is_marked(value, "inherited", 2) or not isinstance(value[1], tuple):
        return False
    return len(value[1]) <= MOST_INHERITED_NAMES and all([are_names(names) for names in value[1]])


def is_template(value):
    """Tell whether a value is a TEMPLATE."""
    return is_inherited(value) or are_entries(value)
