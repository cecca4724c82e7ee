"""The lines of the text of a page, read: what they tell of it, by their forms alone.

Each function that reads the words of a line returns None if they have no form, otherwise what they tell.
"""

from gridlanes.errors import NoText
from gridlanes.names import is_marked
from gridlanes.spelling import read_edge, read_entries, read_integer, read_number

ITEM_BLANKS = 2
PAGE_BLANKS = 4


class Reader:
    """Lines, and the index of the next one to be read."""

    def __init__(self, lines):
        self.lines = lines
        self.at = 0


class PageDraft:
    """What a text tells of a page: the parts of its grid, and the drafts of its items."""

    def __init__(self, grid, members):
        self.grid = grid
        self.members = members


class ItemDraft:
    """What a text tells of an item: its parts, and its content; kind is "words", "block" or "page".

    The content is the list of the numbers of its line, or the draft of a page.
    """

    def __init__(self, parts, kind, content):
        self.parts = parts
        self.kind = kind
        self.content = content


def read_template(words):
    """Read the words of a template."""
    entries = read_entries(words)
    if entries is not None and len(entries) == 1 and is_marked(entries[0], "inherited", 2):
        return entries[0]
    return None if entries is None else tuple(entries)


def read_sizes(words):
    """Read the sizes of further lanes."""
    entries = read_entries(words)
    return None if entries is None or len(entries) == 0 else tuple(entries)


def read_row(words):
    """Read a row of fields."""
    return tuple(words) if len(words) > 0 else None


def read_flow(words):
    """Read a flow, and whether it is dense."""
    if len(words) != 2 or words[1] not in ("dense", "sparse"):
        return None
    return (words[0], words[1] == "dense")


def read_gaps(words):
    """Read two gaps."""
    return read_entries(words) if len(words) == 2 else None


def read_ways(words):
    """Read two ways, whatever they are."""
    return words if len(words) == 2 else None


def read_own_ways(words):
    """Read two ways that may be left out."""
    return [None if word == "-" else word for word in words] if len(words) == 2 else None


def read_order(words):
    """Read the order of an item: a list with an integer."""
    order = read_integer(words[0]) if len(words) == 1 else None
    return None if order is None else [order]


def read_edges(words):
    """Read the two edges of an item in an axis."""
    edges = [read_edge(word) for word in words]
    if len(edges) != 2 or any([edge is None for edge in edges]):
        return None
    return edges[0] + edges[1]


def read_numbers(words):
    """Read numbers."""
    numbers = [read_number(word) for word in words]
    return None if any([number is None for number in numbers]) else numbers


def read_margins(words):
    """Read four margins."""
    return read_numbers(words) if len(words) == 4 else None


def read_told_sizes(words):
    """Read six sizes of an item that may be left out."""
    told = read_numbers([word for word in words if word != "-"])
    if len(words) != 6 or told is None:
        return None
    return [None if word == "-" else read_number(word) for word in words]


def read_words(words):
    """Read the numbers of Words: three and the widths."""
    return read_numbers(words) if len(words) > 2 else None


def read_block(words):
    """Read the two numbers of a Block."""
    return read_numbers(words) if len(words) == 2 else None


def read_nothing(words):
    """Read a line that ends behind its first word."""
    return words if len(words) == 0 else None


def words_ahead(reader, blanks):
    """Return the list of the words of the next line; [] if it does not begin with just so many blanks."""
    if reader.at >= len(reader.lines):
        return []
    line = reader.lines[reader.at]
    words = line[blanks:].split(" ")
    if line[:blanks] != " " * blanks or "" in words:
        return []
    return words


def is_ahead(reader, blanks, word):
    """Tell whether the next line begins with so many blanks and this word."""
    return words_ahead(reader, blanks)[:1] == [word]


def taken(reader, blanks, word, read):
    """Return what the next line tells, and go on; it must begin with a word, and the words behind have a form."""
    told = read(words_ahead(reader, blanks)[1:]) if is_ahead(reader, blanks, word) else None
    if told is None:
        raise NoText(reader.at)
    reader.at += 1
    return told


def taken_grid(reader, blanks):
    """Return the parts of a grid that the next lines tell."""
    parts = {"columns": taken(reader, blanks, "columns", read_template)}
    parts["rows"] = taken(reader, blanks, "rows", read_template)
    fields = []
    while is_ahead(reader, blanks, "fields"):
        fields.append(taken(reader, blanks, "fields", read_row))
    parts["fields"] = tuple(fields)
    parts["more_columns"] = taken(reader, blanks, "more-columns", read_sizes)
    parts["more_rows"] = taken(reader, blanks, "more-rows", read_sizes)
    parts["flow"], parts["dense"] = taken(reader, blanks, "flow", read_flow)
    parts["column_gap"], parts["row_gap"] = taken(reader, blanks, "gaps", read_gaps)
    parts["justify"], parts["align"] = taken(reader, blanks, "lanes", read_ways)
    parts["items_justify"], parts["items_align"] = taken(reader, blanks, "items", read_ways)
    return parts


def taken_item(reader, blanks):
    """Return the draft of an item that the next lines tell."""
    inner = blanks + ITEM_BLANKS
    parts = {"order": taken(reader, blanks, "item", read_order)[0]}
    parts["column"] = taken(reader, inner, "column", read_edges)
    parts["row"] = taken(reader, inner, "row", read_edges)
    parts["margins"] = tuple(taken(reader, inner, "margins", read_margins))
    sizes = taken(reader, inner, "sizes", read_told_sizes)
    parts["width"], parts["height"], parts["least_width"], parts["greatest_width"] = sizes[:4]
    parts["least_height"], parts["greatest_height"] = sizes[4:]
    parts["justify"], parts["align"] = taken(reader, inner, "own", read_own_ways)
    if is_ahead(reader, inner, "words"):
        return ItemDraft(parts, "words", taken(reader, inner, "words", read_words))
    if is_ahead(reader, inner, "block"):
        return ItemDraft(parts, "block", taken(reader, inner, "block", read_block))
    taken(reader, inner, "page", read_nothing)
    return ItemDraft(parts, "page", taken_page(reader, blanks + PAGE_BLANKS))


def taken_page(reader, blanks):
    """Return the draft of a page that the next lines tell."""
    grid = taken_grid(reader, blanks)
    members = []
    while is_ahead(reader, blanks, "item"):
        members.append(taken_item(reader, blanks))
    return PageDraft(grid, members)


def draft_of(text):
    """Return the draft of the page that a text tells."""
    lines = text.split("\n")
    reader = Reader(lines[:-1])
    draft = taken_page(reader, 0)
    if reader.at < len(reader.lines) or lines[-1] != "":
        raise NoText(reader.at)
    return draft
