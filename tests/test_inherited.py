"""Promises [25], [59], [60], [61] and [62]: pages that inherit the lanes of their items."""

import random
import unittest

from gridlanes.contents import Block, Words
from gridlanes.own import own_widths
from gridlanes.pages import Grid, Item, Page
from gridlanes.reckoning import plus
from gridlanes.rows import areas, first_baseline, own_height, shims
from tests.laid import boxes_of, columns_of, inner_of, laid_out, rows_of
from tests.random_pages import LENGTHS, random_size
from tests.support import Case

HALF = (1, 2)
NONE = ("inherited", ())
WORDS = Words((20, 50, 10), 5, 12, 9)


def share(k):
    return ("share", k)


def names(*given):
    return ("names", given)


def at(column, row, content, **named):
    column = column if isinstance(column, tuple) else (column, None)
    row = row if isinstance(row, tuple) else (row, None)
    return Item(content, column=column, row=row, **named)


def block(width, height=5):
    return Block(width, height)


def columns_page(members, template=NONE, **named):
    """A page that inherits its columns."""
    return Page(Grid(template, **named), members)


def rows_page(members, template=NONE, **named):
    """A page that inherits its rows."""
    return Page(Grid((), template, **named), members)


class ColumnsTest(Case):

    def check(self, page, widths, width, columns, inner=None, boxes=None):
        """Check own widths, columns in a width, and the columns and boxes of the page in the first item."""
        self.check_numbers(own_widths(page), widths)
        self.check_numbers(columns_of(page, width), columns)
        if inner is not None:
            self.check_numbers(inner_of(page, width)[0][1], inner)
        if boxes is not None:
            self.check_numbers(inner_of(page, width)[0][3], boxes)

    def test_the_example(self):
        inner = columns_page([at(1, 1, block(30)), at(2, 1, block(50))], column_gap=10)
        page = Page(Grid(("auto", "auto")), [at((1, 3), 1, inner)])
        self.check(page, (90, 90), 90, [(0, 35), (35, 55)], [(0, 30), (40, 50)], [(0, 0, 30, 5), (40, 0, 50, 5)])

    def test_one_lane(self):
        inner = columns_page([at(1, 1, WORDS)], column_gap=10)
        page = Page(Grid(("auto",)), [at(1, 1, inner)])
        self.check(page, (50, 90), 70, [(0, 70)], [(0, 70)])
        page = Page(Grid(("auto",), column_gap=4), [at(1, 1, inner, margins=(1, 2, 4, 8))])
        self.check(page, (60, 100), 70, [(0, 70)], [(0, 60)])

    def test_margins_at_both_ends(self):
        inner = columns_page([at(1, 1, block(30)), at(2, 1, block(50)), at(3, 1, block(20))])
        page = Page(Grid(("auto", "auto", "auto")), [at((1, 4), 1, inner, margins=(0, 2, 0, 8))])
        self.check(page, (110, 110), 110, [(0, 38), (38, 50), (88, 22)], [(0, 30), (30, 50), (80, 20)])
        # An item over several columns has the margin of each end that it shares.
        for edges, widths in (((1, 4), 90), ((1, 3), 88), ((2, 4), 82), ((2, 3), 80)):
            page = Page(Grid(("auto", "auto", "auto")),
                        [at((1, 4), 1, columns_page([at(edges, 1, block(80))]), margins=(0, 2, 0, 8))])
            self.assertEqual(own_widths(page)[0], widths)

    def test_the_margins_ask_by_themselves(self):
        for margins, width in (((0, 2, 0, 8), 10), ((0, 0, 0, 8), 8), ((0, 2, 0, -1), 1), ((0, 2, 0, -2), 0),
                               ((0, 2, 0, -8), 0), ((9, 0, 9, 0), 0)):
            page = Page(Grid(("auto",)), [at(1, 1, columns_page([]), margins=margins)])
            self.assertEqual(own_widths(page), (width, width))
            page = Page(Grid(("auto", "auto")), [at((1, 3), 1, columns_page([]), margins=margins)])
            self.assertEqual(own_widths(page), (width, width))

    def test_without_margins_nothing_is_asked(self):
        # Nothing that asks for nothing gives the first column a limit, so both take half of what the block asks.
        for margins in ((0, 0, 0, 0), (0, 5, 0, -5), (0, 1, 0, -9)):
            page = Page(Grid(("auto", "auto"), justify="start"), [
                at(1, 1, columns_page([]), margins=margins), at((1, 3), 2, block(100))])
            self.check_numbers(columns_of(page, 100), [(0, 50), (50, 50)])

    def test_an_item_that_begins_at_a_later_lane(self):
        inner = columns_page([at(1, 1, block(30)), at(2, 1, block(50))], column_gap=6)
        page = Page(Grid((5, "auto", "auto")), [at((2, 4), 1, inner, margins=(0, 2, 0, 8))])
        self.check(page, (101, 101), 101, [(0, 5), (5, 41), (46, 55)], [(0, 30), (36, 50)])

    def test_lanes_ahead(self):
        inner = columns_page([at(1, 1, block(5)), at(2, 1, block(5))])
        page = Page(Grid((10, 20, 30), more_columns=(7, 9)), [
            at((1, 3), 1, inner), at((("a", -2), None), 2, block(1))])
        self.assertEqual(columns_of(page, 100), [(0, 7), (7, 9), (16, 10), (26, 20), (46, 30)])
        self.assertEqual(boxes_of(page, 100)[0][:3:2], (16, 30))
        self.assertEqual(inner_of(page, 100)[0][1], [(0, 10), (10, 20)])

    def test_the_difference_of_gaps(self):
        members = [at(1, 1, block(30)), at(2, 1, block(50)), at((1, 3), 1, block(5))]
        for outer_gap, inner_gap, widths, inner in (
                (4, 4, 84, [(0, 30), (34, 50)]), (4, 10, 90, [(0, 30), (40, 50)]), (10, 4, 84, [(0, 30), (34, 50)]),
                (0, 3, 83, [(0, 30), (33, 50)]), (3, 0, 80, [(0, 30), (30, 50)]),
                (6, ("part", HALF), 80, [(0, 30), (30, 50)])):
            page = Page(Grid(("auto", "auto"), column_gap=outer_gap),
                        [at((1, 3), 1, columns_page(members, column_gap=inner_gap))])
            self.assertEqual(own_widths(page), (widths, widths))
            self.check_numbers(inner_of(page, widths)[0][1], inner)

    def test_a_gap_that_is_a_part_around(self):
        inner = columns_page([at(1, 1, block(30)), at(2, 1, block(50))], column_gap=10)
        page = Page(Grid(("auto", "auto"), column_gap=("part", (1, 10)), justify="start"), [at((1, 3), 1, inner)])
        self.check(page, (90, 90), 200, [(0, 25), (45, 45)], [(0, 30), (40, 50)])

    def test_no_size_is_below_0(self):
        inner = columns_page([], column_gap=30)
        page = Page(Grid((10, 10, 10)), [at((1, 4), 1, inner, margins=(0, 12, 0, 3))])
        self.check_numbers(inner_of(page, 50)[0][1], [(0, 0), (22, 0), (32, 0)])
        self.check_numbers(boxes_of(page, 50)[0][:3:2], (3, 15))
        page = Page(Grid((10,)), [at(1, 1, columns_page([]), margins=(0, 12, 0, 3))])
        self.check_numbers((inner_of(page, 50)[0][1], boxes_of(page, 50)[0][:3:2]), ([(0, 0)], (3, 0)))

    def test_the_box_fills_its_area(self):
        inner = columns_page([at(1, 1, block(30))])
        for named in ({}, {"width": 5}, {"greatest_width": 5}, {"least_width": 500}, {"justify": "end"}):
            page = Page(Grid((60, 70)), [at((1, 3), 1, inner, margins=(0, 2, 0, 8), **named)])
            self.check_numbers(boxes_of(page, 200)[0][:3:2], (8, 120))
            self.check_numbers(inner_of(page, 200)[0][1], [(0, 52), (52, 68)])
        page = Page(Grid(("auto", 70)), [at((1, 3), 1, inner, width=500)])
        self.assertEqual(own_widths(page), (100, 100))

    def test_lanes_where_they_are_aligned(self):
        inner = columns_page([at(2, 1, block(5))], column_gap=4)
        page = Page(Grid((20, 20, 20), justify="between"), [at((2, 4), 1, inner)])
        self.check_numbers(columns_of(page, 100), [(0, 20), (40, 20), (80, 20)])
        self.check_numbers(inner_of(page, 100)[0][1], [(0, 18), (42, 18)])
        self.check_numbers(areas(page, 100), [(40, 0, 60, 5)])

    def test_lines_and_their_names(self):
        template = ("inherited", (("x",), (), ("y",), ("z",)))
        outer = (names("a"), 10, names("b"), 20, names("c"), 30, names("d", "b"), 40)
        for edge, column in (("x", 0), ("y", 1), ("b", 0), ("c", 1), (("b", -1), 1), ("a", 1), ("z", 1), (-1, 1), (1, 0),
                             (30, 1), (-30, 0), ("f", 0), ("g", 1), ("h", 1)):
            inner = columns_page([at((edge, None), 1, block(5))], template, fields=(("f", "g", "h"),))
            page = Page(Grid(outer, fields=((".", ".", "o", "."),)), [at((2, 4), 1, inner)])
            start = inner_of(page, 100)[0][3][0][0]
            self.assertEqual(start, [0, 20][column], edge)
        # The outer page's field begins at line 2, as an inner line.
        inner = columns_page([at("o", 1, block(5))])
        page = Page(Grid(outer, fields=((".", ".", "o", "."),)), [at((2, 4), 1, inner)])
        self.assertEqual(inner_of(page, 100)[0][3][0][:3:2], (20, 30))

    def test_the_first_line_has_its_names(self):
        page = Page(Grid((names("a"), 10, 20, names("b"))), [at((1, 3), 1, columns_page([at(("a", "b"), 1, block(5))]))])
        self.assertEqual(inner_of(page, 100)[0][3][0][:3:2], (0, 30))
        page = Page(Grid((names("a"), 10, names("b"))), [at((-3, 2), 1, columns_page([at((("b", 1), None), 1, block(5))]))])
        self.assertEqual(columns_of(page, 100), [(0, 90), (90, 10)])
        self.assertEqual(inner_of(page, 100)[0][3][0][:3:2], (90, 10))

    def test_lines_that_are_not_told_have_no_names(self):
        inner = columns_page([at((("a", 1), None), 1, block(5))])
        page = Page(Grid((names("a"), 10), more_columns=(7, 9)), [at((2, 4), 1, inner)])
        self.assertEqual(inner_of(page, 100)[0][3][0][:3:2], (7, 9))
        page = Page(Grid((names("a"), 10), more_columns=(7, 9)), [at((("b", -1), 2), 1, inner)])
        self.assertEqual(inner_of(page, 100)[0][3][0][:3:2], (9, 10))

    def test_items_walk_through_the_lanes(self):
        some = [Item(block(5, 5)) for _ in range(3)]
        page = Page(Grid((10, 20)), [at((1, 3), 1, columns_page(some))])
        self.assertEqual(inner_of(page, 100)[0][3], [(0, 0, 10, 5), (10, 0, 20, 5), (0, 5, 10, 5)])
        page = Page(Grid((10, 20)), [at((1, 3), 1, columns_page([Item(block(5), column=(("span", 9), None))]))])
        self.assertEqual(inner_of(page, 100)[0][3], [(0, 0, 30, 5)])

    def test_rows_of_the_inner_page_are_its_own(self):
        inner = columns_page([at(1, 1, WORDS), at(1, 2, WORDS)], row_gap=3)
        page = Page(Grid((70,)), [at(1, 1, inner)])
        self.assertEqual(own_height(page, 100), 51)
        self.assertEqual(inner_of(page, 100)[0][2], [(0, 24), (27, 24)])

    def test_inner_areas_where_columns_are_sized(self):
        # For no height the fill repeats once: the items stand in two columns. In a height of 20 both are in one.
        inner = Page(Grid(NONE, (("fill", (10,)),), flow="column"), [Item(block(30, 10)), Item(block(40, 10))])
        page = Page(Grid(("auto", "auto"), (20,), justify="start"), [at((1, 3), 1, inner)])
        self.assertEqual(own_widths(page), (70, 70))
        self.assertEqual(columns_of(page, 100, 20), [(0, 30), (30, 40)])
        self.assertEqual(inner_of(page, 100, 20)[0][3], [(0, 0, 30, 10), (0, 10, 30, 10)])

    def test_pages_within_the_inner_page(self):
        deepest = Page(Grid((30, "auto"), column_gap=4), [Item(WORDS, column=(2, None))])
        page = Page(Grid(("auto", 5)), [at((1, 3), 1, columns_page([at(1, 1, deepest)]))])
        self.check(page, (89, 129), 100, [(0, 95), (95, 5)], [(0, 95), (95, 5)])
        # A page with rows of its own around it may inherit rows in turn.
        deepest = rows_page([at(1, 1, block(7, 11)), at(1, 2, block(9, 13))])
        page = Page(Grid(("auto",)), [at(1, 1, columns_page([at(1, (1, 3), deepest)]))])
        self.assertEqual(own_widths(page), (9, 9))
        self.assertEqual(own_height(page, 50), 24)


class RowsTest(Case):

    def check(self, page, height, rows, inner, boxes=None, width=100):
        self.check_numbers(own_height(page, width), height)
        self.check_numbers(rows_of(page, width), rows)
        self.check_numbers(inner_of(page, width)[0][2], inner)
        if boxes is not None:
            self.check_numbers(inner_of(page, width)[0][3], boxes)

    def test_as_columns(self):
        inner = rows_page([at(1, 1, block(5, 30)), at(1, 2, block(5, 50))], row_gap=10)
        page = Page(Grid(), [at(1, (1, 3), inner)])
        self.check(page, 90, [(0, 35), (35, 55)], [(0, 30), (40, 50)], [(0, 0, 100, 30), (0, 40, 100, 50)])
        page = Page(Grid(row_gap=4), [at(1, (1, 3), inner, margins=(1, 2, 4, 8))])
        self.check(page, 95, [(0, 34), (38, 57)], [(0, 30), (40, 50)])

    def test_the_box_fills_its_area(self):
        inner = rows_page([at(1, 1, block(5, 30))])
        for named in ({}, {"height": 5}, {"greatest_height": 5}, {"least_height": 500}, {"align": "end"},
                      {"align": "baseline"}):
            page = Page(Grid((), (60, 70)), [at(1, (1, 3), inner, margins=(8, 0, 2, 0), **named)])
            self.check_numbers(boxes_of(page, 100)[0][1::2], (8, 120))
            self.check_numbers(inner_of(page, 100)[0][2], [(0, 52), (52, 68)])

    def test_margins_that_are_more_than_the_area(self):
        for height, due in ((9, 0), (10, 0), ((21, 2), HALF), (12, 2)):
            page = Page(Grid((), (height,)), [at(1, 1, rows_page([]), margins=(8, 0, 2, 0))])
            self.check_numbers(boxes_of(page, 100)[0][1::2], (8, due))

    def test_lanes_ahead(self):
        inner = rows_page([at(1, 1, block(5)), at(1, 2, block(5))])
        page = Page(Grid((), (10, 20, 30), more_rows=(7, 9)), [
            at(1, (1, 3), inner), at(2, (("a", -2), None), block(1))])
        self.assertEqual(rows_of(page, 100), [(0, 7), (7, 9), (16, 10), (26, 20), (46, 30)])
        self.assertEqual(boxes_of(page, 100)[0][1::2], (16, 30))
        self.assertEqual(inner_of(page, 100)[0][2], [(0, 10), (10, 20)])

    def test_heights_are_those_in_the_inner_widths(self):
        inner = rows_page([at(1, 1, WORDS), at(2, 2, WORDS)])
        page = Page(Grid((180,)), [at(1, (1, 3), inner)])
        self.check(page, 24, [(0, 12), (12, 12)], [(0, 12), (12, 12)])
        page = Page(Grid((130,)), [at(1, (1, 3), inner)])
        self.check(page, 48, [(0, 24), (24, 24)], [(0, 24), (24, 24)])

    def test_shims_of_the_inner_page(self):
        words = [Words((10,), 0, 20, base) for base in (5, 15)]
        inner = rows_page([at(1, 1, words[0]), at(2, 1, words[1])], items_align="baseline")
        page = Page(Grid(), [at(1, 1, inner)])
        self.check(page, 30, [(0, 30)], [(0, 30)], [(0, 10, 50, 20), (50, 0, 50, 20)])

    def test_in_no_group(self):
        words = Words((10,), 0, 40, 30)
        inner = rows_page([at(1, 1, Words((10,), 0, 20, 5))])
        page = Page(Grid(items_align="baseline"), [at(1, 1, inner, margins=(3, 0, 0, 0)), at(2, 1, words)])
        self.assertEqual(shims(page, 100), [0, 0])
        self.assertEqual(first_baseline(page, 100), 30)
        page = Page(Grid(items_align="baseline"), [at(1, 1, inner, margins=(3, 0, 0, 0)), at(2, 1, words, align="end")])
        self.assertEqual(first_baseline(page, 100), 8)

    def test_rows_sized_a_second_time(self):
        inner = rows_page([at(1, 1, block(5, 30)), at(1, 2, block(5, 20))], row_gap=10)
        page = Page(Grid((), (), row_gap=("part", (1, 5))), [at(1, (1, 3), inner)])
        # The first time: 35 and 25 without a gap. Then the gap is 12, and the blocks ask for one less.
        self.assertEqual(own_height(page, 100), 60)
        self.assertEqual(rows_of(page, 100), [(0, 29), (41, 19)])
        self.assertEqual(inner_of(page, 100)[0][2], [(0, 30), (40, 20)])

    def test_a_told_height(self):
        inner = rows_page([at(1, 1, block(5, 30)), at(1, 2, block(5, 50))], row_gap=10)
        page = Page(Grid(), [at(1, (1, 3), inner)])
        self.assertEqual(inner_of(page, 100, 110)[0][2], [(0, 40), (50, 60)])
        self.assertEqual(inner_of(page, 100, 110)[0][0], 110)

    def test_the_walk_down(self):
        inner = rows_page([Item(block(5, 5)) for _ in range(3)], flow="column")
        page = Page(Grid((), (10, 20)), [at(1, (1, 3), inner)])
        self.assertEqual(inner_of(page, 100)[0][3], [(0, 0, 50, 10), (0, 10, 50, 20), (50, 0, 50, 10)])
        self.assertEqual(own_widths(page), (10, 10))
        inner = rows_page([Item(block(5, 5)) for _ in range(3)])
        page = Page(Grid((), (10, 20)), [at(1, (1, 3), inner)])
        self.assertEqual(inner_of(page, 100)[0][3], [(0, 0, 100, 10), (0, 10, 100, 20), (0, 10, 100, 20)])

    def test_the_width_by_ways(self):
        inner = rows_page([at(1, 1, WORDS)])
        page = Page(Grid((200,), (30,)), [at(1, 1, inner, justify="end")])
        self.assertEqual(boxes_of(page, 200), [(110, 0, 90, 30)])


class BothAxesTest(Case):
    """Promise [62]."""

    def test_members_lie_as_if_they_stood_around(self):
        rng = random.Random(62)
        for _ in range(300):
            grid = Grid(
                tuple(random_size(rng) for _ in range(4)), tuple(random_size(rng) for _ in range(4)),
                column_gap=rng.choice((0, 3, HALF)), row_gap=rng.choice((0, 3, HALF)),
                justify=rng.choice(("start", "stretch", "end", "between")),
                align=rng.choice(("start", "stretch", "end", "between")),
                items_justify=rng.choice(("start", "stretch", "end", "center")),
                items_align=rng.choice(("start", "stretch", "end", "center")))
            inner_grid = Grid(NONE, NONE, column_gap=grid.column_gap, row_gap=grid.row_gap,
                              items_justify=grid.items_justify, items_align=grid.items_align)
            left, top = rng.randint(0, 2), rng.randint(0, 2)
            inner, around = [], []
            for _ in range(rng.randint(1, 3)):
                first, row = rng.randint(0, 1), rng.randint(0, 1)
                behind, bottom = rng.randint(first + 1, 2), rng.randint(row + 1, 2)
                content = rng.choice((WORDS, block(rng.choice(LENGTHS), rng.choice(LENGTHS))))
                named = {"margins": rng.choice(((0, 0, 0, 0), (1, 2, 3, 4))), "width": rng.choice((None, None, 30)),
                         "align": rng.choice((None, "start", "end"))}
                inner.append(at((first + 1, behind + 1), (row + 1, bottom + 1), content, **named))
                around.append(at((left + first + 1, left + behind + 1), (top + row + 1, top + bottom + 1), content,
                                 **named))
            other = at(1, 1, WORDS)
            item = at((left + 1, left + 3), (top + 1, top + 3), Page(inner_grid, inner))
            page, flat = Page(grid, [item, other]), Page(grid, [*around, other])
            self.assertEqual(own_widths(page), own_widths(flat))
            width, height = rng.choice((0, 100, 150)), rng.choice((None, 80))
            self.assertEqual(own_height(page, width), own_height(flat, width))
            found, due = laid_out(page, width, height), laid_out(flat, width, height)
            self.assertEqual(found[:3], due[:3])
            x, y, _, _ = found[3][0]
            inner_boxes = found[4][0][3]
            for (inner_x, inner_y, wide, tall), box in zip(inner_boxes, due[3]):
                self.assertEqual((plus(x, inner_x), plus(y, inner_y), wide, tall), box)


if __name__ == "__main__":
    unittest.main()
