"""What items hold: words that are put into lines, and blocks."""

from gridlanes.errors import NoContent, NoNumber
from gridlanes.reckoning import at_most, is_length, plus, times

MOST_WORDS = 20


class Words:
    """Words that are put into lines, told by their widths."""

    def __init__(self, widths, blank, line, base):
        check_widths(widths)
        check_length("blank", blank)
        check_length("line", line)
        check_length("base", base)
        self.widths = tuple(widths)
        self.blank = blank
        self.line = line
        self.base = base

    def __eq__(self, other):
        return (
            isinstance(other, Words)
            and self.widths == other.widths
            and self.blank == other.blank
            and self.line == other.line
            and self.base == other.base
        )


class Block:
    """A block with a width and a height."""

    def __init__(self, width, height):
        check_length("width", width)
        check_length("height", height)
        self.width = width
        self.height = height

    def __eq__(self, other):
        return isinstance(other, Block) and self.width == other.width and self.height == other.height


def check_widths(widths):
    """Raise NoContent if these are no widths of words."""
    if not isinstance(widths, (list, tuple)) or len(widths) > MOST_WORDS:
        raise NoContent("widths", -1)
    for index, width in enumerate(widths):
        if not is_length(width):
            raise NoContent("widths", index)


def check_length(part, value):
    """Raise NoContent with this part if its value is no LENGTH."""
    if not is_length(value):
        raise NoContent(part, -1)


def check_content(content):
    """Raise NoContent if this is neither Words nor a Block."""
    if not isinstance(content, (Words, Block)):
        raise NoContent("content", -1)


def check_width(width):
    """Raise NoNumber if a width to put words into is no LENGTH."""
    if not is_length(width):
        raise NoNumber("width")


def least_width(content):
    """Return the width of the widest word, or that of a block."""
    check_content(content)
    if isinstance(content, Block):
        return content.width
    widest = 0
    for width in content.widths:
        if at_most(widest, width):
            widest = width
    return widest


def most_width(content):
    """Return the width of all words in one line, or that of a block."""
    check_content(content)
    if isinstance(content, Block):
        return content.width
    total = 0
    for index, width in enumerate(content.widths):
        if index > 0:
            total = plus(total, content.blank)
        total = plus(total, width)
    return total


def line_firsts(content, width):
    """Return the list of the indexes of the first words of lines."""
    firsts = []
    reached = 0
    for index, word in enumerate(content.widths):
        longer = plus(plus(reached, content.blank), word)
        if index > 0 and at_most(longer, width):
            reached = longer
        else:
            firsts.append(index)
            reached = word
    return firsts


def lines_in(content, width):
    """Return the list of the lines of Words in a width, each as (first, behind)."""
    if not isinstance(content, Words):
        raise NoContent("content", -1)
    check_width(width)
    firsts = line_firsts(content, width)
    behinds = firsts[1:] + [len(content.widths)]
    return list(zip(firsts, behinds))


def height_of(content, width):
    """Return the height of Words or a Block in a width that is known to be one."""
    if isinstance(content, Block):
        return content.height
    return times(len(line_firsts(content, width)), content.line)


def height_in(content, width):
    """Return the height of Words or a Block in a width."""
    check_content(content)
    check_width(width)
    return height_of(content, width)
