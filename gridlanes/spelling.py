"""How the numbers, sizes, entries and edges of pages are written as words, and read from them.

What is read from a word without the form of one is None; no word that has one is read as None.
"""

from gridlanes.edges import is_edge
from gridlanes.names import is_marked, is_name
from gridlanes.reckoning import is_integer, is_number

FIGURES = "0123456789"
MOST_FIGURES = 30
DEEPEST_BRACKETS = 4
SIZE_WORDS = ("auto", "least", "most")
MARKS = ("part", "share", "between", "upto", "repeat", "fill", "fit")
# The items of such an entry stand in a tuple that is the last part of it.
LISTING_MARKS = ("repeat", "fill", "fit")
# Python writes out integers up to some thousand figures alone.
CHUNK = 10 ** 64
CHUNK_FIGURES = 64


def written_integer(number):
    """Return an integer as a word."""
    if number < 0:
        return "-" + written_integer(0 - number)
    chunks = []
    while number >= CHUNK:
        number, chunk = divmod(number, CHUNK)
        chunks.append(str(chunk).zfill(CHUNK_FIGURES))
    chunks.append(str(number))
    return "".join(chunks[::-1])


def written_number(number):
    """Return a NUMBER as a word."""
    if is_integer(number):
        return written_integer(number)
    return written_integer(number[0]) + "/" + written_integer(number[1])


def in_brackets(mark, words):
    """Return a mark and words in brackets as a word."""
    return mark + "(" + ",".join(words) + ")"


def written_entry(entry):
    """Return a size or an entry of a template as a word."""
    if isinstance(entry, str):
        return entry
    if is_integer(entry) or is_integer(entry[0]):
        return written_number(entry)
    if entry[0] == "names":
        return in_brackets("names", list(entry[1]))
    parts = list(entry[1:])
    if entry[0] in LISTING_MARKS:
        parts = [*parts[:-1], *parts[-1]]
    return in_brackets(entry[0], [written_entry(part) for part in parts])


def written_template(template):
    """Return the words of a template."""
    if is_marked(template, "inherited", 2):
        return [in_brackets("inherited", [in_brackets("names", list(names)) for names in template[1]])]
    return [written_entry(entry) for entry in template]


def written_edge(edge):
    """Return an edge as a word."""
    if edge is None:
        return "-"
    parts = list(edge) if isinstance(edge, tuple) else [edge]
    return ":".join([written_integer(part) if is_integer(part) else part for part in parts])


def read_integer(word):
    """Return the integer that a word tells."""
    figures = word[1:] if word[:1] == "-" else word
    if not 1 <= len(figures) <= MOST_FIGURES or not all([figure in FIGURES for figure in figures]):
        return None
    if figures[0] == "0" and word != "0":
        return None
    return int(word)


def read_number(word):
    """Return the NUMBER that a word tells."""
    top, stroke, bottom = word.partition("/")
    if stroke == "":
        return read_integer(word)
    number = (read_integer(top), read_integer(bottom))
    return number if is_number(number) else None


def split_words(text):
    """Return the list of the words between commas that stand in no brackets; None if brackets do not match."""
    if text == "":
        return []
    words = []
    first = 0
    depth = 0
    for index, sign in enumerate(text):
        if sign == "(":
            depth += 1
        elif sign == ")":
            depth -= 1
        elif sign == "," and depth == 0:
            words.append(text[first:index])
            first = index + 1
        if depth < 0:
            return None
    words.append(text[first:])
    return words if depth == 0 else None


def read_listed(text, mark, deepest):
    """Return the list of what the words tell that stand in brackets behind a mark, None if one has no form there."""
    words = split_words(text)
    if words is None:
        return None
    if mark == "names":
        return words if all([is_name(word) for word in words]) else None
    if mark == "inherited" and not all([word.startswith("names(") for word in words]):
        return None
    return read_all(words, deepest)


def read_marked(mark, text, deepest):
    """Return the entry that a mark makes with the words in brackets behind it."""
    parts = read_listed(text, mark, deepest)
    if parts is None:
        return None
    if mark == "names":
        return (mark, tuple(parts))
    if mark == "inherited":
        return (mark, tuple([part[1] for part in parts]))
    if mark not in MARKS or len(parts) == 0:
        return None
    if mark == "repeat":
        return (mark, parts[0], tuple(parts[1:]))
    return (mark, tuple(parts)) if mark in LISTING_MARKS else (mark, *parts)


def read_entry(word, deepest):
    """Return the size or entry that a word tells, be it one or not, with brackets so deep in one another at most."""
    if word in SIZE_WORDS:
        return word
    mark, bracket, rest = word.partition("(")
    if bracket == "":
        return read_number(word)
    if deepest == 0 or rest[-1:] != ")":
        return None
    return read_marked(mark, rest[:-1], deepest - 1)


def read_all(words, deepest):
    """Return the list of the sizes or entries that words tell, be they some or not, None if one has no form."""
    entries = [read_entry(word, deepest) for word in words]
    return None if any([entry is None for entry in entries]) else entries


def read_entries(words):
    """Return the list of the sizes or entries that the words of a line tell, None if one has no form."""
    return read_all(words, DEEPEST_BRACKETS)


def read_edge(word):
    """Return a tuple with the edge alone that a word tells, None if it tells none."""
    if word == "-":
        return (None,)
    parts = []
    for part in word.split(":"):
        number = read_integer(part)
        parts.append(part if number is None else number)
    edge = parts[0] if len(parts) == 1 else tuple(parts)
    return (edge,) if is_edge(edge) else None
