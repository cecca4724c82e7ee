"""Promises [2], [55] and [56]: layouts, as they are returned. What they hold is tested in the tests of rows as well."""

import random
import unittest

from gridlanes.contents import Block
from gridlanes.errors import ManyLanes, NoNumber, NoPage
from gridlanes.layouts import Layout, layout
from gridlanes.pages import Grid, Item, Page
from tests.random_pages import random_page
from tests.short import HALF, WORDS, share
from tests.support import Case, all_values, raised

PARTS = ("width", "height", "columns", "rows", "boxes", "inner")


def parts_of(found):
    return tuple(getattr(found, part) for part in PARTS)


def three_deep():
    deepest = Page(Grid((("between", 10, share(1)), 20)), [Item(WORDS), Item(Block(5, 30))])
    middle = Page(Grid((), (), row_gap=3, justify="center"), [Item(deepest, margins=(1, 2, 3, 4)), Item(WORDS, width=60)])
    return Page(Grid((share(1), share(2)), column_gap=10), [Item(WORDS), Item(middle, align="end"), Item(Block(1, 2))])


class LayoutTest(Case):

    def test_the_example(self):
        page = Page(Grid((30, "auto"), column_gap=4), [Item(WORDS, column=(2, None))])
        self.check_numbers(parts_of(layout(page, 100)), (100, 24, [(0, 30), (34, 66)], [(0, 24)], [(34, 0, 66, 24)], [None]))

    def test_kinds(self):
        for page in (Page(Grid()), three_deep()):
            found = layout(page, 100)
            self.assertIs(found.__class__, Layout)
            for part in PARTS[2:]:
                self.assertIs(getattr(found, part).__class__, list)
            for rows in (found.columns, found.rows, found.boxes):
                self.assertTrue(all(row.__class__ is tuple for row in rows))
        self.assertEqual(parts_of(layout(Page(Grid()), (7, 2))), ((7, 2), 0, [], [], [], []))
        self.assertEqual(parts_of(layout(Page(Grid()), 5, HALF)), (5, HALF, [], [], [], []))

    def test_the_height(self):
        page = Page(Grid((), (10, 20), row_gap=3))
        self.assertEqual(layout(page, 5).height, 33)
        self.assertEqual(layout(page, 5, None).height, 33)
        self.assertEqual(layout(page, 5, 12).height, 12)
        self.assertEqual(layout(page, 5, 12).rows, [(0, 10), (13, 20)])

    def test_lanes_ahead_come_first(self):
        page = Page(Grid((30,), (5,), more_columns=(10, 20), more_rows=(7,)), [
            Item(WORDS, column=(("a", -3), 1), row=(("a", -1), None)), Item(WORDS, column=(1, None), row=(1, None))])
        found = layout(page, 60, 12)
        self.assertEqual(found.columns, [(0, 20), (20, 10), (30, 20), (50, 30)])
        self.assertEqual(found.rows, [(0, 7), (7, 5)])
        self.assertEqual(found.boxes, [(0, 0, 50, 7), (50, 7, 30, 5)])

    def test_pages_in_pages(self):
        found = layout(three_deep(), 190)
        self.assertEqual((found.columns, found.rows), ([(0, 60), (70, 120)], [(0, 73), (73, 2)]))
        self.assertEqual(found.boxes, [(0, 0, 60, 73), (70, 0, 120, 73), (0, 73, 60, 2)])
        self.assertEqual([one is None for one in found.inner], [True, False, True])
        # The middle one's column is 116 wide: all words, the column of 20, and the margins of 6.
        middle = found.inner[1]
        self.assertEqual(parts_of(middle)[:5], (
            120, 73, [(2, 116)], [(0, 34), (37, 36)], [(6, 1, 110, 30), (2, 37, 60, 36)]))
        self.assertEqual(middle.inner[1], None)
        self.assertEqual(parts_of(middle.inner[0]), (
            110, 30, [(0, 90), (90, 20)], [(0, 30)], [(0, 0, 90, 30), (90, 0, 20, 30)], [None, None]))

    def test_a_page_in_a_box_that_is_no_page(self):
        inner = Page(Grid((share(1),), (share(1),)), [Item(WORDS)])
        for align, height in (("stretch", 60), ("start", 12), ("center", 12)):
            found = layout(Page(Grid((100,), (60,)), [Item(inner, align=align)]), 100)
            self.assertEqual((found.inner[0].width, found.inner[0].height), (100, height))

    def test_words_whose_height_hangs_on_the_width(self):
        page = Page(Grid((share(1), 40), (), column_gap=5), [Item(WORDS), Item(WORDS)])
        for width, first in ((95, 36), (134, 24), (135, 12)):
            found = layout(page, width)
            self.assertEqual(found.height, max(first, 36))
            self.assertEqual(layout(Page(page.grid, page.members[:1]), width).height, first)

    def test_what_is_returned_is_new(self):
        page = three_deep()
        found = layout(page, 190)
        due = layout(page, 190)
        for part in PARTS[2:]:
            getattr(found, part).append(None)
            getattr(found.inner[1], part).clear()
        self.assertFalse(found == due)
        self.assertTrue(layout(page, 190) == due)
        self.assertTrue(page == three_deep())

    def test_by_names(self):
        page = three_deep()
        self.assertTrue(layout(height=70, width=190, page=page) == layout(page, 190, 70))


class EqualTest(Case):

    def test_equal_just_if_all_attributes_are(self):
        page = three_deep()
        found = layout(page, 190)
        self.assertTrue(found == layout(three_deep(), 190))
        self.assertFalse(found != layout(three_deep(), 190))
        for part in PARTS:
            other = layout(page, 190)
            setattr(other, part, [] if part not in ("width", "height") else 7)
            self.assertFalse(found == other, part)
            self.assertTrue(found != other, part)

    def test_pages_within_count(self):
        one = Page(Grid((50,), (20,)), [Item(Page(Grid((5,))))])
        other = Page(Grid((50,), (20,)), [Item(Page(Grid((6,))))])
        self.assertEqual(parts_of(layout(one, 50))[:5], parts_of(layout(other, 50))[:5])
        self.assertFalse(layout(one, 50) == layout(other, 50))

    def test_equal_to_nothing_of_another_kind(self):
        found = layout(Page(Grid()), 5)
        for label, value in all_values().items():
            self.assertIs(found == value, label == "layout", label)
            self.assertIs(value == found, label == "layout", label)
        self.assertFalse(found == parts_of(found))
        self.assertFalse(layout(Page(Grid()), 6) == found)

    def test_equal_arguments_give_equal_layouts(self):
        rng = random.Random(56)
        for _ in range(40):
            page = random_page(rng)
            if raised(layout, page, 100) is None:
                self.assertTrue(layout(page, 100) == layout(page, 100))
                self.assertTrue(layout(page, 100) == layout(Page(page.grid, list(page.members)), 100, None))


class ErrorsTest(Case):

    def test_the_page(self):
        self.check_place(NoPage, {"part": "page", "index": -1}, lambda value: layout(value, 50), ("page",))
        self.check_raises(NoPage, {"part": "page", "index": -1}, layout, None, None, -1)

    def test_the_width(self):
        page = Page(Grid())
        self.check_place(NoNumber, {"part": "width"}, lambda value: layout(page, value), ("zero", "one", "huge", "half"))
        self.check_raises(NoNumber, {"part": "width"}, layout, page, (2, 4), -1)

    def test_the_height(self):
        page = Page(Grid((("fill", (1,)),)))
        self.check_place(NoNumber, {"part": "height"}, lambda value: layout(page, 5, value),
                         ("none", "zero", "one", "huge", "half"))
        self.check_raises(NoNumber, {"part": "height"}, layout, page, 100, -1)

    def test_many_lanes(self):
        columns = Page(Grid((("fill", (10,)),), (("fill", (10,)),)))
        for page in (columns, Page(Grid(), [Item(columns)]), Page(Grid(), [Item(Page(Grid(), [Item(columns)]))])):
            self.assertIsNotNone(layout(page, 609, 609))
            self.check_raises(ManyLanes, {"axis": "column"}, layout, page, 610, 5)
            self.check_raises(ManyLanes, {"axis": "row"}, layout, page, 5, 610)
            self.check_raises(ManyLanes, {"axis": "column"}, layout, page, 610, 610)


if __name__ == "__main__":
    unittest.main()
