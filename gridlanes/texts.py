"""Texts of pages, written and read."""

from gridlanes.contents import Block, Words
from gridlanes.errors import NoPage, NoText
from gridlanes.pages import Grid, Item, Page
from gridlanes.reading import ITEM_BLANKS, PAGE_BLANKS, draft_of
from gridlanes.spelling import written_edge, written_entry, written_number, written_template


def line_of(word, words):
    """Return a line of a word and the words behind it."""
    return " ".join([word, *words])


def grid_lines(grid):
    """Return the list of the lines of a grid."""
    lines = [line_of("columns", written_template(grid.columns)), line_of("rows", written_template(grid.rows))]
    lines.extend([line_of("fields", row) for row in grid.fields])
    lines.append(line_of("more-columns", [written_entry(size) for size in grid.more_columns]))
    lines.append(line_of("more-rows", [written_entry(size) for size in grid.more_rows]))
    lines.append(line_of("flow", [grid.flow, "dense" if grid.dense else "sparse"]))
    lines.append(line_of("gaps", [written_entry(grid.column_gap), written_entry(grid.row_gap)]))
    lines.append(line_of("lanes", [grid.justify, grid.align]))
    lines.append(line_of("items", [grid.items_justify, grid.items_align]))
    return lines


def written_told(number):
    """Return a NUMBER or None as a word."""
    return "-" if number is None else written_number(number)


def content_lines(content):
    """Return the list of the lines of a content."""
    if isinstance(content, Words):
        numbers = [content.blank, content.line, content.base, *content.widths]
        return [line_of("words", [written_number(number) for number in numbers])]
    if isinstance(content, Block):
        return [line_of("block", [written_number(content.width), written_number(content.height)])]
    return ["page"]


def item_lines(item):
    """Return the list of the lines of an item, without those of a page in it."""
    sizes = [
        item.width, item.height, item.least_width, item.greatest_width, item.least_height, item.greatest_height,
    ]
    lines = [
        line_of("column", [written_edge(edge) for edge in item.column]),
        line_of("row", [written_edge(edge) for edge in item.row]),
        line_of("margins", [written_number(margin) for margin in item.margins]),
        line_of("sizes", [written_told(size) for size in sizes]),
        line_of("own", ["-" if way is None else way for way in (item.justify, item.align)]),
    ]
    lines.extend(content_lines(item.content))
    return [line_of("item", [written_number(item.order)])] + [" " * ITEM_BLANKS + line for line in lines]


def page_lines(page):
    """Return the list of the lines of a page."""
    lines = grid_lines(page.grid)
    for item in page.members:
        lines.extend(item_lines(item))
        if isinstance(item.content, Page):
            lines.extend([" " * PAGE_BLANKS + line for line in page_lines(item.content)])
    return lines


def page_text(page):
    """Return the text of a page."""
    if not isinstance(page, Page):
        raise NoPage("page", -1)
    return "".join([line + "\n" for line in page_lines(page)])


def made_content(draft):
    """Return the content of which an item's draft tells."""
    if draft.kind == "page":
        return made_page(draft.content)
    if draft.kind == "words":
        blank, line, base, *widths = draft.content
        return Words(widths, blank, line, base)
    return Block(draft.content[0], draft.content[1])


def made_item(draft):
    """Return the item of which a draft tells."""
    parts = draft.parts
    content = made_content(draft)
    return Item(content, **parts)


def made_page(draft):
    """Return the page of which a draft tells."""
    parts = draft.grid
    grid = Grid(**parts)
    return Page(grid, [made_item(member) for member in draft.members])


def read_page(text):
    """Return the page of a text."""
    if not isinstance(text, str):
        raise NoText(-1)
    return made_page(draft_of(text))
