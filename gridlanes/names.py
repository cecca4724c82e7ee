"""Names of lines and fields, and words out of a few told ones."""

LETTERS = "abcdefghijklmnopqrstuvwxyz"
NAME_SIGNS = "abcdefghijklmnopqrstuvwxyz0123456789-"
LONGEST_NAME = 16


def is_word(value, words):
    """Tell whether a value is one of these words."""
    return isinstance(value, str) and value in words


def is_marked(value, word, many):
    """Tell whether a value is a tuple of so many items that begins with this word."""
    return isinstance(value, tuple) and len(value) == many and is_word(value[0], (word,))


def is_name(value):
    """Tell whether a value is a NAME."""
    if not isinstance(value, str) or not 1 <= len(value) <= LONGEST_NAME or value == "span":
        return False
    for sign in value:
        if sign not in NAME_SIGNS:
            return False
    return value[0] in LETTERS


def are_names(value):
    """Tell whether a value is a tuple of NAMES."""
    return isinstance(value, tuple) and all([is_name(name) for name in value])
