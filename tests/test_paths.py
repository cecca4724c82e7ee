"""Promises [72] and [73]: paths to the lengths of a page, and the boxes of a page."""

import random
import unittest

from gridlanes.contents import Block, Words
from gridlanes.errors import NoPath
from gridlanes.pages import Grid, Item, Page
from gridlanes.paths import length_at, with_length
from gridlanes.pieces import box_paths
from tests.random_pages import random_page
from tests.short import HALF, LENGTHS, NUMBERS, share
from tests.support import Case, all_values, raised



def names(*given):
    return ("names", given)


def whole_page(numbers):
    """A page with a length of each kind, deep within, too; numbers gives a number for each in the order of LEADING."""
    given = iter(numbers)

    def new():
        return next(given)

    def content_of(kind):
        if kind == "block":
            return Block(new(), new())
        widths = (new(), new(), new())
        return Words(widths, new(), new(), new())

    def item(content, **named):
        margins = (new(), new(), new(), new())
        sizes = {name: new() for name in ("width", "height", "least_width", "greatest_width", "least_height",
                                          "greatest_height")}
        return Item(content, margins=margins, **sizes, **named)

    def grid():
        columns = (new(), "auto", ("between", new(), share(3)), names("a"), ("between", "least", new()),
                   ("between", new(), new()), ("upto", new()), ("repeat", 7, (names("b"), new(), ("between", new(), "auto"))),
                   ("part", 11), share(2), ("between", ("part", 1), "most"), ("upto", ("part", 3)))
        rows = (("fit", (new(), names("c"), ("between", "auto", new()))), new(), ("between", new(), share(1)))
        return Grid(columns, rows, more_columns=(new(), "auto", ("upto", new())), more_rows=(("between", new(), new()),),
                    column_gap=new(), row_gap=new())

    inner_grid = Grid((("fill", (new(), names("x"), ("between", new(), new()))),), ("inherited", ((), ("a",))),
                      column_gap=new(), row_gap=("part", 1))
    deepest = Page(Grid((new(),), column_gap=("part", HALF)), [item(content_of("block"))])
    middle = Page(inner_grid, [Item(deepest, column=(1, 3)), item(content_of("words"))])
    outer = grid()
    return Page(outer, [item(content_of("words")), Item(middle, row=(2, 4)), item(content_of("block"))])


def member_paths(ahead):
    sizes = ("width", "height", "least_width", "greatest_width", "least_height", "greatest_height")
    return [(*ahead, "margins", k) for k in range(4)] + [(*ahead, size) for size in sizes]


def content_paths(ahead, kind):
    if kind == "block":
        return [(*ahead, "content", "width"), (*ahead, "content", "height")]
    return [(*ahead, "content", "widths", k) for k in range(3)] + [
        (*ahead, "content", part) for part in ("blank", "line", "base")]


MIDDLE = ("members", 1, "content")
DEEPEST = (*MIDDLE, "members", 0, "content")
# In the order in which whole_page asks for numbers.
LEADING = [
    *[(*MIDDLE, "grid", "columns", 0, 1, *rest) for rest in ((0,), (2, 1), (2, 2))],
    (*MIDDLE, "grid", "column_gap"),
    (*DEEPEST, "grid", "columns", 0),
    *content_paths((*DEEPEST, "members", 0), "block"),
    *member_paths((*DEEPEST, "members", 0)),
    *content_paths((*MIDDLE, "members", 1), "words"),
    *member_paths((*MIDDLE, "members", 1)),
    *[("grid", "columns", *rest) for rest in ((0,), (2, 1), (4, 2), (5, 1), (5, 2), (6, 1), (7, 2, 1), (7, 2, 2, 1))],
    *[("grid", "rows", *rest) for rest in ((0, 1, 0), (0, 1, 2, 2), (1,), (2, 1))],
    ("grid", "more_columns", 0), ("grid", "more_columns", 2, 1),
    ("grid", "more_rows", 0, 1), ("grid", "more_rows", 0, 2),
    ("grid", "column_gap"), ("grid", "row_gap"),
    *content_paths(("members", 0), "words"), *member_paths(("members", 0)),
    *content_paths(("members", 2), "block"), *member_paths(("members", 2)),
]
# Steps of all kinds, to be put into paths that lead to something.
STEPS = ("grid", "members", "columns", "rows", "more_columns", "more_rows", "column_gap", "row_gap", "content", "margins",
         "width", "height", "least_width", "greatest_width", "least_height", "greatest_height", "widths", "blank", "line",
         "base", 0, 1, 2, 3, 4, 12, -1, -2, "fields", "order", "column", "row", "flow", "justify", "between", "0", "")


def is_margin(path):
    return "margins" in path


class PathsTest(Case):

    def page(self):
        return whole_page(range(1, 1000))

    def test_each_length(self):
        page = self.page()
        self.assertEqual(len(set(LEADING)), 79)
        for number, path in enumerate(LEADING, 1):
            self.check_numbers(length_at(page, path), number)

    def test_another_length(self):
        page = self.page()
        for index, path in enumerate(LEADING):
            for value in (0, 777, (25, 2)):
                numbers = list(range(1, 1000))
                numbers[index] = value
                other = with_length(page, path, value)
                self.assertIs(other.__class__, Page)
                self.assertTrue(other == whole_page(numbers), path)
                self.check_numbers(length_at(other, path), value)
            self.assertTrue(with_length(page, path, index + 1) == page)
        self.assertTrue(page == self.page())

    def test_margins_may_be_below_0(self):
        page = self.page()
        for path in LEADING:
            due = None if is_margin(path) else (NoPath, {"path": path})
            for value in (-1, (-3, 2)):
                self.assertEqual(raised(with_length, page, path, value), due)
                if due is None:
                    self.check_numbers(length_at(with_length(page, path, value), path), value)

    def test_values_of_all_kinds(self):
        page = self.page()
        for path in LEADING:
            self.check_place(NoPath, {"path": path}, lambda value: with_length(page, path, value),
                             NUMBERS if is_margin(path) else LENGTHS)

    def test_fractions(self):
        page = whole_page([(2 * k + 1, 2) for k in range(1000)])
        for index, path in enumerate(LEADING):
            self.check_numbers(length_at(page, path), (2 * index + 1, 2))
            for rest in (0, 1):
                self.check_no_path(page, (*path, rest))

    def check_no_path(self, page, path):
        self.assertEqual(raised(length_at, page, path), (NoPath, {"path": path}), path)
        self.assertEqual(raised(with_length, page, path, 5), (NoPath, {"path": path}), path)

    def test_other_paths(self):
        page = self.page()
        right = set(LEADING)
        # What is left at 0 is a number, too.
        left = [(*item, "margins", side) for item in (MIDDLE[:-1], DEEPEST[:-1]) for side in range(4)]
        for path in [*left, (*DEEPEST, "grid", "row_gap")]:
            self.assertEqual(length_at(page, path), 0)
            right.add(path)
        tried = set()
        for path in LEADING:
            for end in range(len(path) + 1):
                tried.add(path[:end])
                for step in STEPS:
                    tried.update((path[:end] + (step,), path[:end] + (step,) + path[end:], path[:end] + (step,) + path[end + 1:]))
        self.assertGreater(len(tried - right), 5000)
        for path in tried - right:
            self.check_no_path(page, path)

    def test_what_is_no_length(self):
        page = self.page()
        for path in ((), ("grid",), ("members",), ("members", 0), ("grid", "columns"), ("members", 0, "margins"),
                     ("members", 0, "content", "widths"), ("grid", "columns", 1), ("grid", "columns", 2),
                     ("grid", "columns", 2, 0), ("grid", "columns", 2, 2), ("grid", "columns", 2, 2, 1), ("grid", "columns", 3),
                     ("grid", "columns", 3, 1), ("grid", "columns", 3, 1, 0), ("grid", "columns", 7, 1), ("grid", "columns", 8),
                     ("grid", "columns", 8, 1), ("grid", "columns", 9, 1), ("grid", "columns", 10, 1),
                     ("grid", "columns", 10, 1, 1), ("grid", "columns", 11, 1), ("grid", "columns", 11, 1, 1),
                     (*MIDDLE, "grid", "rows", 1), (*MIDDLE, "grid", "rows", 1, 1, 0), (*MIDDLE, "grid", "row_gap"),
                     (*MIDDLE, "grid", "row_gap", 1), (*MIDDLE, "grid", "rows", 0), ("members", 0, "order"),
                     ("members", 1, "row", 0), ("members", 1, "width"), ("grid", "more_rows", 1), ("members", 3, "width"),
                     ("members", 0, "content", "widths", 3), ("members", 0, "margins", 4), ("grid", "columns", 12)):
            self.check_no_path(page, path)

    def test_tuples_that_look_like_fractions(self):
        page = Page(Grid((1, 2), (3, 2), more_columns=(5, 3), more_rows=(("between", 1, 2), 2)), [
            Item(Words((1, 2), 0, 0, 0), row=(1, 2), column=(1, 3))])
        for path in (("grid", "columns"), ("grid", "rows"), ("grid", "more_columns"), ("members", 0, "content", "widths"),
                     ("members", 0, "row"), ("members", 0, "column"), ("members", 0, "row", 0)):
            self.check_no_path(page, path)
        for path, due in ((("grid", "columns", 1), 2), (("grid", "more_columns", 1), 3),
                          (("members", 0, "content", "widths", 0), 1)):
            self.assertEqual(length_at(page, path), due)
            self.assertEqual(length_at(with_length(page, path, (7, 2)), path), (7, 2))

    def test_steps_and_paths_of_all_kinds(self):
        page = Page(Grid((10, 20)), [Item(Block(1, 2))])
        for label, value in all_values().items():
            with self.subTest(label):
                self.check_no_path(page, value)
                if label not in ("zero", "one"):
                    self.check_no_path(page, ("grid", "columns", value))
                if label != "zero":
                    self.check_no_path(page, ("members", value, "margins", 0))
                self.check_no_path(page, (value, "columns", 0))
                self.check_no_path(page, ("members", 0, "content", value))
        self.check_no_path(page, ["grid", "columns", 0])
        self.check_no_path(page, ("grid", "columns", True))
        self.check_no_path(page, ("grid", "columns", False))
        self.check_no_path(page, ("grid", "columns", -1))
        self.check_no_path(page, "width")

    def test_by_names(self):
        page = self.page()
        self.assertEqual(length_at(path=LEADING[0], page=page), 1)
        self.assertTrue(with_length(value=9, path=LEADING[0], page=page) == with_length(page, LEADING[0], 9))


class BoxPathsTest(Case):

    def test_boxes(self):
        block = Item(Block(1, 2))
        self.assertEqual(box_paths(Page(Grid())), [])
        self.assertEqual(box_paths(Page(Grid(), [block, block])), [(0,), (1,)])
        deepest = Page(Grid(), [block, block])
        middle = Page(Grid(), [block, Item(deepest), Item(Page(Grid())), block])
        self.assertEqual(box_paths(page=Page(Grid(), [Item(deepest), Item(middle), block])), [
            (0,), (0, 0), (0, 1), (1,), (1, 0), (1, 1), (1, 1, 0), (1, 1, 1), (1, 2), (1, 3), (2,)])

    def test_many_pages(self):
        rng = random.Random(73)
        for _ in range(100):
            page = random_page(rng)
            paths = box_paths(page)
            self.assertEqual(paths, sorted(set(paths)))
            for path in paths:
                content = page
                for index in path:
                    content = content.members[index].content
            self.assertEqual(len([path for path in paths if len(path) == 1]), len(page.members))

    def test_what_is_returned_is_new(self):
        page = Page(Grid(), [Item(Block(1, 2))])
        box_paths(page).append(None)
        self.assertEqual(box_paths(page), [(0,)])


if __name__ == "__main__":
    unittest.main()
