"""Promises [85] and [86]: texts of pages, written and read."""

import random
import unittest

from gridlanes.contents import Block, Words
from gridlanes.errors import LaneError, NoContent, NoGrid, NoItem, NoPage, NoText
from gridlanes.pages import Grid, Item, Page
from gridlanes.texts import page_text, read_page
from tests.literal_texts import wrong_line
from tests.random_pages import random_page
from tests.short import HALF, share
from tests.support import Case, raised

PLAIN = """columns
rows
more-columns auto
more-rows auto
flow row sparse
gaps 0 0
lanes stretch stretch
items stretch stretch
"""
ITEM = """item 0
  column - -
  row - -
  margins 0 0 0 0
  sizes - - - - - -
  own - -
  block 1 2
"""
WHOLE = """columns names(a,b-start) 20 25/2 auto least most part(1/2) share(0) between(20,share(1)) upto(part(1)) names() \
repeat(3,20,names(a)) between(part(3/4),auto) upto(7/2)
rows fit(between(auto,9),names(x9)) 5 names(z)
fields f .
fields f g
more-columns 1 between(least,most)
more-rows share(2/3)
flow column dense
gaps part(1/10) 7/3
lanes evenly between
items center baseline
item -3
  column 3 -1
  row a a-b:3
  margins 0 -1 3/2 -7/2
  sizes 1 - 5/2 - 0 -
  own end -
  words 5 12 9 30 20 25/2
item 12
  column span:2 span:30:b
  row a:-30 -
  margins 1 2 3 4
  sizes - 6 - 7 - 8
  own - baseline
  page
    columns inherited(names(a),names())
    rows fill(20,names(a),names(),between(auto,part(1)))
    more-columns auto
    more-rows auto
    flow row sparse
    gaps 0 0
    lanes start end
    items start end
    item 0
      column - -
      row - -
      margins 0 0 0 0
      sizes - - - - - -
      own - -
      page
        columns
        rows inherited()
        fields .
        more-columns auto
        more-rows auto
        flow row sparse
        gaps 0 0
        lanes around stretch
        items end center
        item 7
          column 1 2
          row -2 span:1
          margins 0 0 0 0
          sizes - - - - - -
          own stretch stretch
          words 0 0 0
    item 1
      column - a
      row - -
      margins 0 0 0 0
      sizes - - - - - -
      own - center
      block 0 9/4
item 0
  column - -
  row - -
  margins 0 0 0 0
  sizes - - - - - -
  own - -
  block 3 4
"""


def whole_page():
    deepest = Page(
        Grid((), ("inherited", ()), fields=((".",),), justify="around", items_justify="end", items_align="center"),
        [Item(Words((), 0, 0, 0), order=7, column=(1, 2), row=(-2, ("span", 1)), justify="stretch", align="stretch")])
    middle = Page(
        Grid(("inherited", (("a",), ())), (("fill", (20, ("names", ("a",)), ("names", ()), ("between", "auto", ("part", 1)))),),
             justify="start", align="end", items_justify="start", items_align="end"),
        [Item(deepest), Item(Block(0, (9, 4)), order=1, column=(None, "a"), align="center")])
    columns = (("names", ("a", "b-start")), 20, (25, 2), "auto", "least", "most", ("part", HALF), share(0),
               ("between", 20, share(1)), ("upto", ("part", 1)), ("names", ()), ("repeat", 3, (20, ("names", ("a",)))),
               ("between", ("part", (3, 4)), "auto"), ("upto", (7, 2)))
    rows = (("fit", (("between", "auto", 9), ("names", ("x9",)))), 5, ("names", ("z",)))
    grid = Grid(columns, rows, fields=(("f", "."), ("f", "g")), more_columns=(1, ("between", "least", "most")),
                more_rows=(share((2, 3)),), flow="column", dense=True, column_gap=("part", (1, 10)), row_gap=(7, 3),
                justify="evenly", align="between", items_justify="center", items_align="baseline")
    return Page(grid, [
        Item(Words((30, 20, (25, 2)), 5, 12, 9), order=-3, column=(3, -1), row=("a", ("a-b", 3)),
             margins=(0, -1, (3, 2), (-7, 2)), width=1, least_width=(5, 2), least_height=0, justify="end"),
        Item(middle, order=12, column=(("span", 2), ("span", 30, "b")), row=(("a", -30), None), margins=(1, 2, 3, 4), height=6,
             greatest_width=7, greatest_height=8, align="baseline"),
        Item(Block(3, 4)),
    ])


def with_line(text, index, line):
    lines = text.split("\n")
    lines[index:index + 1] = [] if line is None else [line]
    return "\n".join(lines)


ENTRIES = ("{}", "part({})", "share({})", "between({},auto)", "between(5,{})", "between(part({}),5)", "between(5,share({}))",
           "upto({})", "upto(part({}))", "repeat({},20)", "repeat(2,names(a),{})", "repeat(2,between(5,part({})))", "fill({})",
           "fit(20,names(),share({}))", "fit(between(upto({}),5))")
# How many numbers stand in a line at most that are told one by one.
MANY = {"margins": 4, "sizes": 6, "words": 5, "block": 2}


def numbers_behind(head):
    """What may stand behind the first word of a line, with {} for each place of a NUMBER in turn."""
    if head in ("columns", "rows", "more-columns", "more-rows"):
        return [*ENTRIES, "5 {}", "{} auto"]
    if head == "gaps":
        return ["{} 0", *["0 " + entry for entry in ENTRIES]]
    many = MANY.get(head, 0)
    return [" ".join([*["1"] * k, "{}", *["1"] * (many - k - 1)]) for k in range(many)]


def number_places():
    """Pairs of the index of a line of WHOLE and another line for it, with {} for a NUMBER."""
    places = []
    for index, line in enumerate(WHOLE.split("\n")[:-1]):
        head = line.split()[0]
        blanks = line[:len(line) - len(line.lstrip())]
        places.extend((index, f"{blanks}{head} {rest}") for rest in numbers_behind(head))
    return places


class WrittenTest(Case):

    def test_pages(self):
        self.assertEqual(page_text(Page(Grid())), PLAIN)
        self.assertEqual(page_text(Page(Grid(), [Item(Block(1, 2))])), PLAIN + ITEM)
        self.assertEqual(page_text(page=whole_page()), WHOLE)

    def test_inherited(self):
        for template, words in ((("inherited", ()), "inherited()"), (("inherited", ((),)), "inherited(names())"),
                                (("inherited", (("a", "b"), (), ("c",))), "inherited(names(a,b),names(),names(c))")):
            for grid, index in ((Grid(template), 0), (Grid((), template), 1)):
                text = page_text(Page(grid))
                self.assertEqual(text.split("\n")[index], ("columns " if index == 0 else "rows ") + words)
                self.assertTrue(read_page(text) == Page(grid))

    def test_great_numbers(self):
        for many in (30, 31, 63, 64, 65, 128, 300, 5000):
            number = int("7" * 20) * 10 ** (many - 20) + 5
            figures = "7" * 20 + "0" * (many - 21) + "5"
            text = page_text(Page(Grid((number, (2 * number + 1, 2))), [Item(Block(1, 2), order=-number)]))
            self.assertEqual(text.split("\n")[0].split(" ")[1], figures)
            self.assertEqual(text.split("\n")[8], "item -" + figures)
            self.assertTrue(text.split("\n")[0].endswith("1/2"))
        self.assertEqual(page_text(Page(Grid((10 ** 64, 10 ** 128 - 1)))).split("\n")[0], "columns 1" + "0" * 64 + " " + "9" * 128)

    def test_what_is_no_page(self):
        self.check_place(NoPage, {"part": "page", "index": -1}, page_text, ("page",))


class ReadTest(Case):

    def check_wrong(self, text, line):
        self.assertEqual(raised(read_page, text), (NoText, {"line": line}), text)
        self.assertEqual(wrong_line(text), line)

    def check_line(self, index, line, due=None, text=WHOLE):
        """Check a text with another line: it is wrong, or a class tells what is wrong, or (True) all is right."""
        changed = with_line(text, index, line)
        if due is None:
            self.check_wrong(changed, index)
        elif due is True:
            self.assertEqual(page_text(read_page(changed)), changed)
        else:
            self.assertIsNone(wrong_line(changed))
            self.assertEqual(raised(read_page, changed), due, line)

    def test_pages(self):
        self.assertTrue(read_page(PLAIN) == Page(Grid()))
        self.assertTrue(read_page(PLAIN + ITEM) == Page(Grid(), [Item(Block(1, 2))]))
        self.assertTrue(read_page(text=WHOLE) == whole_page())

    def test_facts(self):
        rng = random.Random(86)
        for _ in range(300):
            page = random_page(rng)
            text = page_text(page)
            self.assertTrue(read_page(text) == page)
            self.assertEqual(page_text(read_page(text)), text)
            self.assertIsNone(wrong_line(text))

    def test_no_strings(self):
        self.check_place(NoText, {"line": -1}, lambda value: read_page(value if not isinstance(value, str) else PLAIN),
                         ("no text", "name", "dot", "span", "auto", "start", "stretch", "between", "baseline", "row", "figures"))
        for text in (None, PLAIN.encode(), [PLAIN], (PLAIN,)):
            self.check_raises(NoText, {"line": -1}, read_page, text)

    def test_each_line_left_out(self):
        lines = WHOLE.split("\n")[:-1]
        for index, line in enumerate(lines):
            text = with_line(WHOLE, index, None)
            if line.strip().startswith("fields"):
                self.assertIsNot((raised(read_page, text) or (None,))[0], NoText)
            else:
                self.check_wrong(text, index)

    def test_each_line_twice(self):
        lines = WHOLE.split("\n")[:-1]
        for index, line in enumerate(lines):
            text = with_line(WHOLE, index, line + "\n" + line)
            if line.strip().startswith("fields"):
                self.assertIsNone(wrong_line(text))
            else:
                self.check_wrong(text, index + 1)

    def test_each_end(self):
        lines = WHOLE.split("\n")[:-1]
        ends = [index for index in range(len(lines) + 1) if wrong_line("\n".join([*lines[:index], ""])) is None]
        self.assertEqual(ends, [10, 17, 32, 48, 55, 62, 69])
        for index in range(len(lines) + 1):
            text = "\n".join([*lines[:index], ""]) if index else ""
            if index in ends:
                self.assertEqual(page_text(read_page(text)), text)
            else:
                self.check_wrong(text, index)

    def test_without_the_last_line_feed(self):
        for text in (PLAIN, PLAIN + ITEM, WHOLE):
            self.check_wrong(text[:-1], text.count("\n") - 1)
            for more in ("x", " ", "item 0", "\n", "\r", "\nx"):
                self.check_wrong(text + more, text.count("\n"))
        for index in range(len(PLAIN)):
            self.check_wrong(PLAIN[:index], PLAIN[:index].count("\n"))

    def test_blanks(self):
        lines = WHOLE.split("\n")[:-1]
        for index, line in enumerate(lines):
            for changed in (" " + line, line + " ", line.replace(" ", "  ", 1), "\t" + line, line + "\r", line + "\t"):
                if changed != line and not changed.endswith(("\r", "\t")):
                    self.check_line(index, changed)
            if line.startswith(" "):
                self.check_line(index, line[1:])
                self.check_line(index, line[2:])
            blanks = len(line) - len(line.lstrip())
            for sign in ("x", "\t", "\u00a0", "-"):
                for many in range(1, blanks + 1):
                    self.check_line(index, sign * many + line[many:])
            for more in ("  ", "    ", "      "):
                # An item may come to stand in another page: then a later line is wrong.
                text = with_line(WHOLE, index, more + line)
                self.assertIn(wrong_line(text), (index, index + 1))
                self.check_wrong(text, wrong_line(text))
            self.check_line(index, "")
            self.check_line(index, line.strip().replace(" ", "", 1) + "x")

    def test_other_words_first(self):
        lines = WHOLE.split("\n")[:-1]
        words = sorted({line.split()[0] for line in lines})
        for index, line in enumerate(lines):
            blanks = line[:len(line) - len(line.lstrip())]
            rest = line.split()[1:]
            for word in [*words, "Columns", "field", "blocks", "-", "#"]:
                text = with_line(WHOLE, index, blanks + " ".join([word, *rest]))
                due = wrong_line(text)
                if due is not None:
                    self.check_wrong(text, due)
            self.check_line(index, blanks + " ".join([line.split()[0].upper(), *rest]))

    def test_how_many_words(self):
        lines = WHOLE.split("\n")[:-1]
        free = {"columns": (0, None), "rows": (0, None), "fields": (1, None), "more-columns": (1, None), "more-rows": (1, None),
                "words": (3, None)}
        for index, line in enumerate(lines):
            first, *rest = line.split()
            blanks = line[:len(line) - len(line.lstrip())]
            least, most = free.get(first, (len(rest), len(rest)))
            filling = {"columns": "auto", "rows": "auto", "fields": "."}.get(first, "1")
            if first == "flow":
                filling = "sparse"
            for many in range(len(rest) + 3):
                words = (rest + [filling] * 3)[:many]
                changed = blanks + " ".join([first, *words])
                if many < least or (most is not None and many > most):
                    self.check_line(index, changed)
                else:
                    self.assertIsNone(wrong_line(with_line(WHOLE, index, changed)), changed)
                    self.assertIsNot((raised(read_page, with_line(WHOLE, index, changed)) or (None,))[0], NoText)

    NUMBERS = ("00", "01", "-0", "+1", "--1", "1.5", "1e3", "0x1", "", "/", "1/", "/2", "1//2", "1/2/3", "1/02", "01/2", "1/+2",
               "1/-0", "-0/3", "-", "a", "1_0", "\u0661", "\u00b2", "1\u0662", "one", "1" + "0" * 30, "-1" + "0" * 30,
               "1/1" + "0" * 30, "1" + "0" * 30 + "/3", "True", "(1)", "1/ 2")
    # A common divisor above 1, or a bottom that is not from 2 on.
    FRACTIONS = ("1/1", "0/1", "-1/1", "3/1", "-7/1", "1/0", "0/0", "-1/0", "1/-1", "1/-2", "-1/-2", "-2/-3", "2/-4", "3/-1", "2/4",
                 "-2/4", "4/2", "6/3", "6/4", "0/2", "0/3", "9/15", "35/49", "2/2", "9" * 30 + "/3", "3/" + "9" * 30,
                 "9" * 30 + "/" + "9" * 30, "1" + "0" * 29 + "/1", "7" * 30 + "/1" + "0" * 14 + "1")

    def test_the_places_of_numbers(self):
        self.assertEqual(len(number_places()), 12 * 17 + 3 * 16 + 6 * (4 + 6) + 2 * 5 + 2 * 2)
        for index, line in number_places():
            for number in ("0", "-3", "1/2", "-15/4"):
                text = with_line(WHOLE, index, line.format(number))
                self.assertIsNone(wrong_line(text), line)
                self.assertIsNot((raised(read_page, text) or (None,))[0], NoText, line)

    def test_numbers(self):
        for number in self.NUMBERS:
            for index, line in number_places():
                if number != "-" or "sizes" not in line:
                    self.check_line(index, line.format(number))
            self.check_line(10, "item " + number)

    def test_fractions_that_are_no_numbers(self):
        for number in self.FRACTIONS:
            for index, line in number_places():
                self.check_line(index, line.format(number))
            self.check_line(10, "item " + number)
            self.check_line(12, f"  row a:{number} -")

    def test_lines_told_of_a_fraction(self):
        text = page_text(Page(Grid()))
        for word in ("2/4", "1/1", "1/-2"):
            self.check_line(3, "more-rows 5 " + word, text=text)
            self.check_line(0, "columns " + word, text=text)
        # The first such line is told, and ahead of what classes refuse in others.
        text = with_line(with_line(WHOLE, 68, "  block 2/4 1"), 0, "columns -5")
        self.check_wrong(text, 68)
        self.check_wrong(with_line(text, 13, "  margins 0 0 3/1 0"), 13)

    def test_fractions_as_other_words(self):
        for number in ("1/1", "2/4", "1/-2", "1/2"):
            self.check_line(2, f"fields {number} .", (NoGrid, {"part": "fields", "index": 0}))
            self.check_line(6, f"flow {number} dense", (NoGrid, {"part": "flow", "index": -1}))
            self.check_line(8, f"lanes {number} start", (NoGrid, {"part": "justify", "index": -1}))
            self.check_line(9, f"items start {number}", (NoGrid, {"part": "items_align", "index": -1}))
            self.check_line(15, f"  own - {number}", (NoItem, {"part": "align"}))

    def test_thirty_figures(self):
        for number in ("9" * 30, "-" + "9" * 30, "9" * 30 + "/" + "9" * 29 + "8", "1/" + "9" * 30, "-1/2", "0", "-1"):
            self.check_line(13, f"  margins {number} 0 0 0", True)
            self.check_line(13, f"  margins 0 0 0 {number}", True)
        self.check_line(10, "item " + "9" * 30, True)
        self.check_line(10, "item " + "9" * 31)
        self.check_line(10, "item 1/2")
        self.check_line(0, "columns " + "9" * 30, True)

    def test_numbers_that_classes_refuse(self):
        for number in ("-1", "-1/2"):
            for k, part in enumerate(("width", "height", "least_width", "greatest_width", "least_height", "greatest_height")):
                sizes = ["-"] * 6
                sizes[k] = number
                self.check_line(14, "  sizes " + " ".join(sizes), (NoItem, {"part": part}))
            for k, part in enumerate(("blank", "line", "base")):
                words = ["1"] * 5
                words[k] = number
                self.check_line(16, "  words " + " ".join(words), (NoContent, {"part": part, "index": -1}))
            for k, part in enumerate(("width", "height")):
                words = ["1", "1"]
                words[k] = number
                self.check_line(68, "  block " + " ".join(words), (NoContent, {"part": part, "index": -1}))
            self.check_line(16, f"  words 1 2 3 4 {number}", (NoContent, {"part": "widths", "index": 1}))
            self.check_line(0, f"columns {number}", (NoGrid, {"part": "columns", "index": -1}))
            self.check_line(1, f"rows 5 part({number})", (NoGrid, {"part": "rows", "index": -1}))
            self.check_line(4, f"more-columns 5 {number}", (NoGrid, {"part": "more_columns", "index": 1}))
            self.check_line(7, f"gaps {number} 0", (NoGrid, {"part": "column_gap", "index": -1}))
            self.check_line(7, f"gaps 0 part({number})", (NoGrid, {"part": "row_gap", "index": -1}))
        self.check_line(16, "  words 1 2 3" + " 4" * 20, True)
        self.check_line(16, "  words 1 2 3" + " 4" * 21, (NoContent, {"part": "widths", "index": -1}))

    def test_words_that_classes_refuse(self):
        for word in ("x", "-", "Row", "row,", "\u00e9", "\t", "dense", "12"):
            self.check_line(6, f"flow {word} dense", (NoGrid, {"part": "flow", "index": -1}))
            self.check_line(8, f"lanes {word} start", (NoGrid, {"part": "justify", "index": -1}))
            self.check_line(8, f"lanes start {word}", (NoGrid, {"part": "align", "index": -1}))
            self.check_line(9, f"items {word} {word}", (NoGrid, {"part": "items_justify", "index": -1}))
            self.check_line(9, f"items start {word}", (NoGrid, {"part": "items_align", "index": -1}))
            if word != "-":
                self.check_line(15, f"  own {word} -", (NoItem, {"part": "justify"}))
                self.check_line(15, f"  own - {word}", (NoItem, {"part": "align"}))
        self.check_line(15, "  own baseline -", (NoItem, {"part": "justify"}))
        self.check_line(9, "items baseline start", (NoGrid, {"part": "items_justify", "index": -1}))
        for words in ("f f", "f", "F .", "f , .", "span ."):
            self.assertEqual(raised(read_page, with_line(WHOLE, 2, "fields " + words))[0], NoGrid)
        self.check_line(2, "fields F .", (NoGrid, {"part": "fields", "index": 0}))
        self.check_line(3, "fields f", (NoGrid, {"part": "fields", "index": 1}))
        for word in ("Dense", "densely", "-", "row", "sparse,", "1"):
            self.check_line(6, f"flow row {word}")

    def test_entries_that_classes_refuse(self):
        wrong = (NoGrid, {"part": "columns", "index": -1})
        for entry in ("part(auto)", "part(1,2)", "part(-1)", "share(auto)", "share(1,1)", "between(1)", "between(1,2,3)",
                      "between(share(1),2)", "between(names(a),1)", "upto(auto)", "upto(1,2)", "repeat(3)", "repeat(auto,20)",
                      "repeat(0,20)", "repeat(21,20)", "repeat(1/2,20)", "repeat(2,names(a))", "repeat(2,fill(20))", "fill(auto)",
                      "fill(names(a))", "fit(upto(5))", "fill(fill(fill(fill(20))))", "inherited() 20", "20 inherited(names(a))",
                      "inherited() inherited()", "fill(20) fit(20)", "fill(inherited())", "repeat(2,inherited(names(a)))",
                      "-1", "part(names())", "inherited()" + " auto", "share(-1/2)", "repeat(20,1,2,3)"):
            self.check_line(0, "columns " + entry, wrong)
            self.check_line(1, "rows " + entry, (NoGrid, {"part": "rows", "index": -1}))
        for entry in ("names(a)", "repeat(2,20)", "fill(20)", "inherited()", "inherited(names(a))", "share(-1)"):
            self.check_line(4, "more-columns auto " + entry, (NoGrid, {"part": "more_columns", "index": 1}))
            self.check_line(5, "more-rows " + entry, (NoGrid, {"part": "more_rows", "index": 0}))
        for entry in ("auto", "share(1)", "between(1,2)", "names()", "inherited()"):
            self.check_line(7, f"gaps {entry} 1", (NoGrid, {"part": "column_gap", "index": -1}))
            self.check_line(7, f"gaps 1 {entry}", (NoGrid, {"part": "row_gap", "index": -1}))
        self.check_line(4, "more-columns" + " auto" * 8, True)
        self.check_line(4, "more-columns" + " auto" * 9, (NoGrid, {"part": "more_columns", "index": -1}))

    def test_entries_without_form(self):
        for entry in ("Auto", "aut", "auto()", "least()", "part", "part()", "part(", "part)", "part(1", "part 1)", "(1)", "()", "1()",
                      "(1", "part(1))", "part((1))", "part(1)(2)", "part(1)share(1)", "part(1),2", "part(,1)", "part(1,)",
                      "between(1,,2)", ",", "1,2", "part(1 )", "names", "names(", "names(a", "names(a,)", "names(,a)", "names(A)",
                      "names(a b)", "names(span)", "names(1a)", "names(-a)", "names(" + "a" * 17 + ")", "names(a,names(b))",
                      "names(())", "names(a/b)", "inherited", "inherited(a)", "inherited(20)", "inherited(names(a),20)",
                      "inherited(names)", "inherited(,)", "inherited(inherited())", "inherited(names(a),)", "foo(1)", "Part(1)",
                      "parts(1)", "fill()", "fit(auto,foo)", "repeat(3,20,names(A))", "fill(20,)", "names(a)names(b)", "fill(names(a)",
                      "fill)20(", "inherited(names(a)),names(b)", "between(1,2", "names(a\u00e9)"):
            self.check_line(0, "columns " + entry)
            self.check_line(1, "rows 20 " + entry + " 30")
            self.check_line(4, "more-columns " + entry)
            self.check_line(7, f"gaps {entry} 0")
        self.check_line(0, "columns names(" + "a" * 16 + ")", True)

    def test_brackets(self):
        wrong = (NoGrid, {"part": "columns", "index": -1})
        for mark in ("part", "share", "between", "upto", "repeat", "fill", "fit"):
            for deep in range(2, 8):
                entry = (mark + "(") * deep + "auto" + ")" * deep
                self.check_line(0, "columns " + entry, wrong if deep < 5 else None)
                self.check_line(0, f"columns fill({entry},20)", wrong if deep < 4 else None)
        for deep in range(2, 6):
            entry = "fill(" * deep + "names(a)" + ")" * deep
            self.check_line(0, "columns " + entry, wrong if deep < 4 else None)
            entry = "fill(" * deep + "inherited(names(a))" + ")" * deep
            self.check_line(0, "columns " + entry, wrong if deep < 3 else None)
        self.check_line(0, "columns fill(between(upto(part(1)),auto),20)", wrong)
        self.check_line(0, "columns repeat(2,between(part(1/2),share(1)),names())", True)
        self.check_line(0, "columns " + "(" * 3000 + ")" * 3000)
        self.check_line(0, "columns " + "fill(" * 3000 + "1" + ")" * 3000)

    def test_edges(self):
        for edge in ("0", "31", "-31", "01", "+1", "-0", "A", "1a", "span", "a" * 17, "a:0", "a:31", "a:-31", "a:01", "a:", ":1", "a:b",
                     "a:1:2", "span:0", "span:31", "span:-1", "span:2:", "span:2:A", "span:2:span", "span:a", "span:2:3", "span:2:a:b",
                     "span:", "1:a", "--", "1/2", "2/4", "1/1", "None", "a:-", "-:1", "\u0661", "a:span", "span:1:1"):
            for index, line in ((11, f"  column {edge} -"), (11, f"  column - {edge}"), (12, f"  row {edge} -"), (12, f"  row 1 {edge}")):
                self.check_line(index, line)
        for edge in ("1", "30", "-1", "-30", "a", "a-9", "a" * 16, "spans", "a:1", "a:30", "a:-30", "span:1", "span:30", "span:1:a",
                     "span:30:spans", "auto", "names"):
            for line in (f"  column {edge} -", f"  column {edge} {edge}"):
                self.check_line(11, line, True)

    def test_the_first_wrong_line(self):
        text = with_line(with_line(WHOLE, 51, "x"), 30, "y")
        self.check_wrong(text, 30)
        self.check_wrong(with_line(text, 0, "columns foo"), 0)
        # A line without form is told ahead of what classes refuse, wherever they stand.
        self.check_wrong(with_line(with_line(WHOLE, 68, "  block 1"), 0, "columns -1"), 68)

    def test_the_order_of_errors(self):
        # From what is made last to what is made first: each one is told ahead of those before.
        text = WHOLE
        for index, line, kind, fields in (
                (67, "  own - x", NoItem, ("align",)), (68, "  block -1 0", NoContent, ("width", -1)),
                (22, "  own x -", NoItem, ("justify",)), (60, "      own - x", NoItem, ("align",)),
                (61, "      block 0 -1", NoContent, ("height", -1)), (37, "      own x -", NoItem, ("justify",)),
                (53, "          own - x", NoItem, ("align",)), (54, "          words 1 2 -3", NoContent, ("base", -1)),
                (47, "        items x start", NoGrid, ("items_justify", -1)), (46, "        lanes start x", NoGrid, ("align", -1)),
                (24, "    columns -2", NoGrid, ("columns", -1)), (15, "  own - x", NoItem, ("align",)),
                (16, "  words -1 2 3", NoContent, ("blank", -1)), (9, "items start x", NoGrid, ("items_align", -1)),
                (1, "rows -1", NoGrid, ("rows", -1)), (0, "columns share(-1)", NoGrid, ("columns", -1))):
            text = with_line(text, index, line)
            self.assertIsNone(wrong_line(text))
            error = raised(read_page, text)
            self.assertEqual((error[0], tuple(error[1].values())), (kind, fields))
        self.check_wrong(with_line(text, 68, "  block 1 0 "), 68)

    def test_pages_that_classes_refuse(self):
        for many in (12, 13):
            due = None if many == 12 else (NoPage, {"part": "members", "index": -1})
            self.assertEqual(raised(read_page, PLAIN + ITEM * many), due)
        inner = "".join("    " + line + "\n" for line in PLAIN.replace("columns", "columns inherited()", 1).split("\n")[:-1])
        text = PLAIN.replace("columns", "columns inherited()", 1) + ITEM + ITEM.replace("  block 1 2\n", "  page\n" + inner)
        self.assertIsNone(wrong_line(text))
        self.assertEqual(raised(read_page, text), (NoPage, {"part": "members", "index": 1}))
        self.assertIsNone(raised(read_page, text.replace("columns inherited()", "columns", 1)))

    def changed(self, rng, text):
        """A text with one change by chance."""
        lines = text.split("\n")
        index = rng.randrange(len(lines))
        words = lines[index].split(" ")
        kind = rng.randrange(8)
        pool = ("-", "0", "1", "-1", "1/2", "2/4", "3/1", "1/-2", "part(2/4)", "auto", "share(1)", "fill(20)", "names(a)",
                "inherited()", "a", "span:2", "dense", "part(auto)", "x(", "", "item", "page", "9" * 31, "row", "stretch")
        if kind < 3:
            words[rng.randrange(len(words))] = rng.choice(pool)
            lines[index] = " ".join(words)
        elif kind == 3:
            words.insert(rng.randrange(len(words) + 1), rng.choice(pool))
            lines[index] = " ".join(words)
        elif kind == 4:
            del lines[index]
        elif kind == 5:
            lines.insert(rng.randrange(len(lines)), lines[index])
        elif kind == 6:
            lines[index] = rng.choice((" ", "  ", "    ")) + lines[index]
        else:
            lines[index] = lines[index][rng.choice((1, 2, 4)):]
        return "\n".join(lines)

    def test_many_texts(self):
        rng = random.Random(87)
        counts = {}
        for _ in range(1500):
            text = self.changed(rng, page_text(random_page(rng)))
            if rng.random() < 0.2:
                text = self.changed(rng, text)
            due = wrong_line(text)
            try:
                found = "page"
                self.assertEqual(page_text(read_page(text)), text)
                self.assertIsNone(due)
            except NoText as error:
                found = "wrong"
                self.assertEqual(error.line, due)
            except LaneError:
                found = "refused"
                self.assertIsNone(due)
            counts[found] = counts.get(found, 0) + 1
        self.assertGreater(min(counts.values()), 40)
        self.assertEqual(len(counts), 3)


if __name__ == "__main__":
    unittest.main()
