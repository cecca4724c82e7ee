"""The forms of promises [85] and [86], written out as patterns, for the tests to compare with."""

import re
from fractions import Fraction

INTEGER = "(?:0|-?[1-9][0-9]{0,29})"
NUMBER = f"{INTEGER}(?:/(?:[2-9]|[1-9][0-9]{{1,29}}))?"
FRACTION = "(-?[0-9]+)/([0-9]+)"
NAME = "(?!span(?![a-z0-9-]))[a-z][a-z0-9-]{0,15}(?![a-z0-9-])"
NAMES = rf"names\((?:{NAME}(?:,{NAME})*)?\)"
LINE = "-?(?:[1-9]|[12][0-9]|30)"
COUNT = "(?:[1-9]|[12][0-9]|30)"
EDGE = f"(?:-|{LINE}|span:{COUNT}(?::{NAME})?|{NAME}(?::{LINE})?)"


def entry(deep):
    plain = f"auto|least|most|{NUMBER}"
    if deep == 0:
        return f"(?:{plain})"
    inner = entry(deep - 1)
    listed = f"(?:{NAMES}(?:,{NAMES})*)?" if deep > 1 else ""
    marked = rf"(?:part|share|between|upto|repeat|fill|fit)\({inner}(?:,{inner})*\)"
    return rf"(?:{plain}|{NAMES}|inherited\({listed}\)|{marked})"


def behind(pattern, least, most=""):
    return f"(?: {pattern}){{{least},{most}}}"


ENTRY = entry(4)
WORD = "[^ \n]+"
PAGE_LINES = [
    f"columns{behind(ENTRY, 0)}", f"rows{behind(ENTRY, 0)}", None, f"more-rows{behind(ENTRY, 1)}",
    f"flow {WORD} (?:dense|sparse)", f"gaps{behind(ENTRY, 2, 2)}", f"lanes{behind(WORD, 2, 2)}",
    f"items{behind(WORD, 2, 2)}",
]
ITEM = f"item {INTEGER}"
ITEM_LINES = [
    f"column{behind(EDGE, 2, 2)}", f"row{behind(EDGE, 2, 2)}", f"margins{behind(NUMBER, 4, 4)}",
    f"sizes{behind(f'(?:-|{NUMBER})', 6, 6)}", f"own{behind(WORD, 2, 2)}",
]
CONTENT = f"words{behind(NUMBER, 3)}|block{behind(NUMBER, 2, 2)}|page"


def in_lowest_terms(top, bottom):
    return Fraction(int(top), int(bottom)).denominator == int(bottom)


def has_form(line, blanks, pattern):
    if re.fullmatch(f" {{{blanks}}}(?:{pattern})", line) is None:
        return False
    # No pattern tells lowest terms; where no NUMBER may stand, a word may be of any form.
    return NUMBER not in pattern or all(in_lowest_terms(*pair) for pair in re.findall(FRACTION, line))


class Position:
    """Where lines stand: for each page that is open its blanks, and the stage of the innermost one."""

    def __init__(self):
        self.blanks, self.stage = [0], 0

    def take(self, line):
        """Go on behind a line; tell whether it may stand here."""
        blanks, stage = self.blanks[-1], self.stage
        if stage == 2:
            if has_form(line, blanks, f"fields{behind(WORD, 1)}"):
                return True
            return self.go_on(has_form(line, blanks, f"more-columns{behind(ENTRY, 1)}"))
        if stage < len(PAGE_LINES):
            return self.go_on(has_form(line, blanks, PAGE_LINES[stage]))
        if stage == len(PAGE_LINES):
            while self.blanks:
                if has_form(line, self.blanks[-1], ITEM):
                    return self.go_on(True)
                self.blanks.pop()
            return False
        at = stage - len(PAGE_LINES) - 1
        if at < len(ITEM_LINES):
            return self.go_on(has_form(line, blanks + 2, ITEM_LINES[at]))
        if not has_form(line, blanks + 2, CONTENT):
            return False
        self.stage = len(PAGE_LINES)
        if line.strip() == "page":
            self.blanks.append(blanks + 4)
            self.stage = 0
        return True

    def go_on(self, is_right):
        self.stage += 1
        return is_right


def wrong_line(text):
    """The line of which NoText tells, None if all lines have their forms."""
    lines = text.split("\n")
    position = Position()
    for index, line in enumerate(lines[:-1]):
        if not position.take(line):
            return index
    return None if lines[-1] == "" and position.stage == len(PAGE_LINES) else len(lines) - 1
