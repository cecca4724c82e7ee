"""Promises [47], [48], [50], [51], [52], [54], [55] and [57]: rows, baselines, areas, and boxes behind these."""

import itertools
import unittest

from gridlanes.contents import Block, Words
from gridlanes.errors import ManyLanes, NoNumber, NoPage
from gridlanes.pages import Grid, Item, Page
from gridlanes.rows import areas, first_baseline, own_height, shims
from tests.laid import boxes_of, columns_of, inner_of, laid_out, rows_of
from tests.support import Case

HALF = (1, 2)
WORDS = Words((20, 50, 10), 5, 12, 9)


def share(k):
    return ("share", k)


def block(width, height):
    return Block(width, height)


def at(column, row, content=WORDS, **named):
    """An item at told lanes: from a line on, or between two lines."""
    column = column if isinstance(column, tuple) else (column, None)
    row = row if isinstance(row, tuple) else (row, None)
    return Item(content, column=column, row=row, **named)


class OwnHeightTest(Case):

    def check(self, grid, members, width, due):
        self.check_numbers(own_height(Page(grid, members), width), due)

    def test_the_example(self):
        page = Page(Grid((30, "auto"), column_gap=4), [Item(WORDS, column=(2, None))])
        self.assertEqual(own_height(page, 100), 24)

    def test_without_items(self):
        self.check(Grid(), [], 100, 0)
        self.check(Grid((), (5, (7, 2), "auto", share(1))), [], 100, (17, 2))
        self.check(Grid((), (5, 5, 5), row_gap=4), [], 100, 23)
        self.check(Grid((), (("between", 5, 9),)), [], 100, 9)

    def test_heights_in_widths(self):
        for width, due in ((0, 36), (50, 36), (64, 36), (65, 24), (89, 24), (90, 12), (500, 12)):
            self.check(Grid(), [Item(WORDS)], width, due)
        for width in (0, 5, 100):
            self.check(Grid(), [Item(block(7, 9))], width, 9)

    def test_rows_are_sized_in_the_room_most(self):
        members = [at(1, 1, block(1, 30))]
        for size, due in (("auto", 30), ("least", 30), ("most", 30), (share(1), 30), (share(HALF), 30),
                          (("upto", 20), 30), (10, 10), (("between", 10, 20), 20), (("between", "auto", 20), 20),
                          (("between", 40, "auto"), 40)):
            self.check(Grid((), (size,)), members, 100, due)
        self.check(Grid((), (share(1), share(2))), members, 100, 90)
        self.check(Grid((), (("between", "auto", 20), 5)), [at(1, (1, 3), block(1, 60))], 100, 25)

    def test_gaps_and_sizes_that_are_parts(self):
        members = [at(1, 1, block(1, 30)), at(1, 2, block(1, 20))]
        self.check(Grid((), (), row_gap=("part", HALF)), members, 100, 50)
        self.check(Grid((), (("part", HALF), ("part", 2))), members, 100, 50)
        self.check(Grid((), (("between", ("part", HALF), 10), 5)), members, 100, 15)
        self.check(Grid((), (("between", 10, ("part", HALF)), 5)), members, 100, 35)

    def test_margins_and_sizes_of_items(self):
        self.check(Grid(), [Item(WORDS, margins=(1, 2, 4, 8))], 100, 17)
        self.check(Grid(), [Item(WORDS, margins=(1, 2, 4, 9))], 100, 29)
        self.check(Grid(), [Item(WORDS, height=50, margins=(1, 2, 4, 8))], 100, 55)
        self.check(Grid(), [Item(WORDS, height=50, greatest_height=30)], 100, 30)
        self.check(Grid(), [Item(WORDS, least_height=30)], 100, 30)
        self.check(Grid(), [Item(WORDS, greatest_height=5)], 100, 5)

    def test_the_width_of_the_box(self):
        for named, width, due in (({"width": 89}, 500, 24), ({"width": 90}, 5, 12), ({"least_width": 90}, 5, 12),
                                  ({"greatest_width": 89}, 500, 24), ({"width": 200, "greatest_width": 50}, 500, 36),
                                  ({"justify": "start"}, 89, 24), ({"justify": "start"}, 90, 12),
                                  ({"justify": "center"}, 5, 36), ({"justify": "end"}, 500, 12),
                                  ({"margins": (0, 11, 0, 0)}, 100, 24), ({"margins": (0, 0, 0, 10)}, 100, 12)):
            self.check(Grid((share(1),)), [Item(WORDS, **named)], width, due)

    def test_fills_and_fits(self):
        members = [Item(block(5, 7)) for _ in range(6)]
        grid = Grid((("fill", (50,)),))
        for width, due in ((99, 42), (100, 21), (149, 21), (150, 14), (300, 7)):
            self.check(grid, members, width, due)
        self.check(Grid((), (("fill", (9,)), 5)), [], 100, 14)
        self.check(Grid((), (("fit", (9,)), 5), row_gap=3), [], 100, 5)
        self.check(Grid((), (("fit", (9,)), 5), row_gap=3), [at(1, 1)], 100, 17)

    def test_pages_in_pages(self):
        inner = Page(Grid((30, "auto"), column_gap=4), [Item(WORDS, column=(2, None))])
        for width, due in ((84, 36), (98, 36), (99, 24), (123, 24), (124, 12)):
            self.check(Grid(), [Item(inner)], width, due)
            self.check(Grid(), [Item(inner, margins=(5, 3, 6, 4))], width + 7, due + 11)
            self.check(Grid(), [Item(Page(Grid(), [Item(inner)]))], width, due)
        self.check(Grid((share(1),)), [Item(inner, justify="start")], 500, 12)
        self.check(Grid((share(1),)), [Item(inner, justify="start")], 98, 36)
        self.check(Grid((share(1),)), [Item(inner, justify="start")], 99, 24)
        self.check(Grid((), (5,)), [at(1, 1, inner)], 90, 5)

    def test_rows_of_inherited_template_count_as_none(self):
        self.check(Grid((), ("inherited", ())), [Item(WORDS)], 100, 12)


class AreasTest(Case):

    def check(self, grid, members, width, height, due):
        page = Page(grid, members)
        self.check_numbers(areas(page, width, height), due)
        if height is None:
            self.check_numbers(areas(page, width), due)

    def test_one_lane_and_several(self):
        grid = Grid((30, 40, 50), (5, 6), column_gap=2, row_gap=1)
        members = [at(1, 1), at(2, 2), at((1, 3), (1, 3)), at((2, 4), 1), at(1, (1, 3), margins=(9, 9, 9, 9))]
        self.check(grid, members, 200, None,
                   [(0, 0, 30, 5), (32, 6, 40, 6), (0, 0, 72, 12), (32, 0, 92, 5), (0, 0, 30, 12)])
        self.check(grid, [], 200, None, [])

    def test_lanes_ahead(self):
        grid = Grid((30,), (5,), more_columns=(10, 20), more_rows=(7,))
        self.check(grid, [at((("a", -3), 1), 1), at(1, 1)], 500, None, [(0, 0, 50, 5), (50, 0, 30, 5)])

    def test_a_told_height(self):
        grid = Grid((share(1),), ("auto", share(1)))
        members = [at(1, 1), at(1, 2)]
        self.check(grid, members, 100, 50, [(0, 0, 100, 12), (0, 12, 100, 38)])
        self.check(grid, members, 100, None, [(0, 0, 100, 12), (0, 12, 100, 12)])
        self.check(grid, members, 100, 0, [(0, 0, 100, 12), (0, 12, 100, 12)])
        self.check(Grid((), ("auto", 10)), [at(1, 1), at(1, 2)], 100, 50, [(0, 0, 100, 40), (0, 40, 100, 10)])
        self.check(Grid((), ("auto", 10), align="start"), [at(1, 1), at(1, 2)], 100, 50,
                   [(0, 0, 100, 12), (0, 12, 100, 10)])

    def test_rows_by_the_height(self):
        grid = Grid((), (("part", HALF), ("fill", (10,))), row_gap=("part", (1, 10)))
        self.check(grid, [at(1, -2)], 50, 100, [(0, 80, 50, 10)])
        self.check(grid, [at(1, -2)], 50, 99, [(0, (793, 10), 50, 10)])

    def test_columns_by_the_width(self):
        grid = Grid((("part", HALF), ("fill", (10,))), (5,), column_gap=("part", (1, 10)))
        self.check(grid, [at(-2, 1)], 100, None, [(80, 0, 10, 5)])

    def test_columns_are_stretched_by_justify(self):
        for justify, due in (("stretch", [(0, 0, 70, 5), (70, 0, 30, 5)]), ("start", [(0, 0, 50, 5), (50, 0, 30, 5)])):
            members = [at(1, 1, block(50, 5)), at(2, 1, block(9, 5))]
            self.check(Grid(("auto", 30), (5,), justify=justify), members, 100, None, due)

    def test_what_is_returned_is_new(self):
        page = Page(Grid((30,), (5,)), [at(1, 1)])
        areas(page, 50).append(None)
        shims(page, 50).append(None)
        self.assertEqual((areas(page, 50), shims(page, 50)), ([(0, 0, 30, 5)], [0]))


class AlignedTest(Case):
    """Promise [54], by areas, and by the lanes behind them."""

    def check(self, way, starts, sizes, room, gap=0, lanes=None):
        """Check where lanes begin, as columns and as rows."""
        lanes = sizes if lanes is None else lanes
        due = list(zip(starts, sizes))
        page = Page(Grid(lanes, lanes, column_gap=gap, row_gap=gap, justify=way, align=way))
        self.check_numbers(columns_of(page, room), due)
        self.check_numbers(rows_of(page, 5, room), due)

    def test_ways(self):
        sizes = (10, 20, 30)
        for way, starts in (("start", (0, 10, 30)), ("stretch", (0, 10, 30)), ("end", (30, 40, 60)),
                            ("center", (15, 25, 45)), ("between", (0, 25, 60)), ("around", (5, 25, 55)),
                            ("evenly", ((15, 2), 25, (105, 2)))):
            self.check(way, starts, sizes, 90)
        for way, starts in (("start", (0, 12, 34)), ("end", (26, 38, 60)), ("center", (13, 25, 47)),
                            ("between", (0, 25, 60)), ("around", ((13, 3), 25, (167, 3))),
                            ("evenly", ((13, 2), 25, (107, 2)))):
            self.check(way, starts, sizes, 90, 2)

    def test_no_space(self):
        for way in ("start", "stretch", "end", "center", "between", "around", "evenly"):
            self.check(way, (0, 10, 30), (10, 20, 30), 60)
            self.check(way, (0, 12, 34), (10, 20, 30), 64, 2)

    def test_little_space(self):
        for way, starts in (("between", (0, (41, 4), (61, 2))), ("around", ((1, 12), (41, 4), (365, 12))),
                            ("evenly", ((1, 8), (41, 4), (243, 8)))):
            self.check(way, starts, (10, 20, 30), (121, 2))
        for way in ("start", "stretch", "between", "around", "evenly"):
            self.check(way, (0, 10, 30), (10, 20, 30), (119, 2))

    def test_too_little_space(self):
        for way in ("start", "stretch", "between", "around", "evenly"):
            self.check(way, (0, 10, 30), (10, 20, 30), 40)
        self.check("end", (-20, -10, 10), (10, 20, 30), 40)
        self.check("center", (-10, 0, 20), (10, 20, 30), 40)
        self.check("center", ((-21, 2), (-1, 2), (39, 2)), (10, 20, 30), 39)

    def test_one_lane(self):
        for way, start in (("between", 0), ("around", 35), ("evenly", 35), ("end", 70), ("center", 35), ("start", 0)):
            self.check(way, (start,), (30,), 100)

    def test_no_lanes(self):
        for way in ("between", "around", "evenly", "end", "center", "start", "stretch"):
            self.check(way, (), (), 100)

    def test_stretched_lanes_leave_nothing(self):
        self.check("stretch", (0, 70), (70, 30), 100, lanes=("auto", 30))
        self.check("between", (0, 70), (0, 30), 100, lanes=("auto", 30))

    def test_lanes_that_fell_away(self):
        def lanes(template, way, members=(), room=100, gap=4):
            grid = Grid(template, (), column_gap=gap, justify=way)
            columns = columns_of(Page(grid, members), room)
            grid = Grid((), template, row_gap=gap, align=way)
            members = [Item(item.content, column=item.row, row=item.column) for item in members]
            self.assertEqual(rows_of(Page(grid, members), 5, room), columns)
            return columns
        fit = ("fit", (10,))
        for way, first, second in (("start", 0, 24), ("end", 56, 80), ("center", 28, 52), ("between", 0, 80),
                                   ("around", 14, 66), ("evenly", (56, 3), (184, 3))):
            # 20, five of the fit that fell away, 20.
            found = lanes((20, fit, 20), way)
            self.assertEqual(found, [(first, 20)] + [(second, 0)] * 4 + [(second, 20)])
        found = lanes((20, fit), "start", [at(3, 1, block(1, 1))])
        self.assertEqual(found, [(0, 20), (24, 0), (24, 10)] + [(34, 0)] * 3)
        found = lanes((fit,), "end", [])
        self.assertEqual(found, [(0, 0)] * 7)
        found = lanes((fit, 20), "end", [])
        self.assertEqual(found, [(80, 0)] * 5 + [(80, 20)])


class BoxesTest(Case):
    """Promises [50] and [55], by the boxes behind areas and baselines."""

    def check(self, members, boxes, grid=None, height=60):
        page = Page(grid or Grid((100,), (60,)), members)
        self.check_numbers(boxes_of(page, 100, height), boxes)

    def test_ways_across(self):
        for way, x, width in (("start", 0, 90), ("stretch", 0, 100), ("end", 10, 90), ("center", 5, 90)):
            self.check([Item(WORDS, justify=way)], [(x, 0, width, 60)])
            self.check([Item(WORDS)], [(x, 0, width, 60)], Grid((100,), (60,), items_justify=way))
            self.check([Item(WORDS, justify=way)], [(x, 0, width, 60)], Grid((100,), (60,), items_justify="center"))
        for way, x, width in (("start", 7, 80), ("stretch", 7, 80), ("end", 7, 80), ("center", 7, 80)):
            self.check([Item(WORDS, justify=way, margins=(0, 13, 0, 7))], [(x, 0, width, 60)])
        for way, x in (("start", 8), ("stretch", 8), ("end", 58), ("center", 33)):
            self.check([Item(WORDS, width=40, justify=way, margins=(0, 2, 0, 8))], [(x, 0, 40, 60)])

    def test_widths(self):
        for named, box in (({"width": 30}, (0, 30)), ({"width": 30, "least_width": 40}, (0, 40)),
                           ({"width": 30, "greatest_width": 20}, (0, 20)), ({"greatest_width": 20}, (0, 20)),
                           ({"least_width": 120}, (0, 120)), ({"margins": (0, 60, 0, 70)}, (70, 0)),
                           ({"margins": (0, 60, 0, 70), "justify": "start"}, (70, 50)),
                           ({"margins": (0, 60, 0, 70), "justify": "end"}, (-10, 50)),
                           ({"margins": (0, 60, 0, 70), "justify": "center"}, (30, 50)),
                           ({"margins": (0, -5, 0, -7)}, (-7, 112)), ({"justify": "end", "width": 120}, (-20, 120)),
                           ({"justify": "center", "width": 105}, ((-5, 2), 105)),
                           ({"justify": "start", "greatest_width": 85}, (0, 85)),
                           ({"justify": "start", "least_width": 95}, (0, 95))):
            self.check([Item(WORDS, **named)], [(box[0], 0, box[1], 60)])

    def test_ways_down(self):
        for way, y, height in (("start", 0, 12), ("stretch", 0, 60), ("end", 48, 12), ("center", 24, 12),
                               ("baseline", 0, 12)):
            self.check([Item(WORDS, align=way)], [(0, y, 100, height)])
            self.check([Item(WORDS)], [(0, y, 100, height)], Grid((100,), (60,), items_align=way))
            self.check([Item(WORDS, align=way)], [(0, y, 100, height)], Grid((100,), (60,), items_align="center"))
        for way, y, height in (("start", 4, 12), ("stretch", 4, 50), ("end", 42, 12), ("center", 23, 12)):
            self.check([Item(WORDS, align=way, margins=(4, 0, 6, 0))], [(0, y, 100, height)])

    def test_heights(self):
        for named, box in (({"height": 30}, (0, 30)), ({"height": 30, "align": "end"}, (30, 30)),
                           ({"height": 30, "least_height": 40}, (0, 40)), ({"greatest_height": 20}, (0, 20)),
                           ({"least_height": 80}, (0, 80)), ({"align": "start", "least_height": 20}, (0, 20)),
                           ({"align": "start", "greatest_height": 5}, (0, 5)), ({"margins": (40, 0, 30, 0)}, (40, 0)),
                           ({"margins": (40, 0, 30, 0), "align": "end"}, (18, 12)),
                           ({"align": "center", "height": 61}, ((-1, 2), 61))):
            self.check([Item(WORDS, **named)], [(0, box[0], 100, box[1])])

    def test_baselines(self):
        members = [at(1, 1, align="baseline"), at(2, 1, Words((10,), 0, 30, 25), align="baseline"), at(3, 1)]
        self.check(members, [(0, 16, 90, 12), (90, 0, 10, 30), (100, 0, 90, 60)], Grid((90, 10, 90), (60,)))

    def test_pages_are_laid_out_in_their_boxes(self):
        inner = Page(Grid((share(1),), (share(1),)), [Item(WORDS)])
        for named, size in (({}, (100, 60)), ({"align": "start"}, (100, 12)), ({"width": 50}, (50, 60)),
                            ({"height": 20}, (100, 20)), ({"justify": "start"}, (90, 60)),
                            ({"align": "end", "height": 20}, (100, 20)), ({"align": "baseline"}, (100, 12)),
                            ({"align": "baseline", "height": 99, "greatest_height": 70}, (100, 70))):
            page = Page(Grid((100,), (60,)), [Item(inner, **named)])
            height, columns, rows, boxes, _ = inner_of(page, 100, 60)[0]
            self.assertEqual((columns, rows), ([(0, size[0])], [(0, size[1])]))
            self.assertEqual((height, boxes), (size[1], [(0, 0, *size)]))

    def test_a_page_for_no_height_may_stand_in_a_lower_box(self):
        inner = Page(Grid(("auto",), ("auto",)), [Item(WORDS)])
        page = Page(Grid((50,), (60,)), [Item(inner, align="start", greatest_height=20)])
        self.assertEqual(boxes_of(page, 100, 60), [(0, 0, 50, 20)])
        self.assertEqual(inner_of(page, 100, 60)[0][:3], (36, [(0, 50)], [(0, 36)]))


class SecondTimeTest(Case):
    """Promise [48]: rows that are sized a second time."""

    def check(self, grid, members, height, rows):
        page = Page(grid, members)
        self.check_numbers(own_height(page, 100), height)
        self.check_numbers(rows_of(page, 100), rows)
        self.check_numbers(laid_out(page, 100)[0], height)

    def test_parts_are_told_by_the_own_height(self):
        members = [at(1, 1, block(1, 30)), at(1, 2, block(1, 20))]
        self.check(Grid((), (("part", HALF), 10)), members, 40, [(0, 20), (20, 10)])
        self.check(Grid((), (("part", HALF), "auto")), members, 50, [(0, 25), (25, 25)])
        self.check(Grid((), (("part", HALF), "auto"), align="start"), members, 50, [(0, 25), (25, 20)])
        self.check(Grid((), (("part", 1), ("part", 1))), members, 50, [(0, 50), (50, 50)])

    def test_gaps(self):
        members = [at(1, 1, block(1, 30)), at(1, 2, block(1, 20))]
        self.check(Grid((), (), row_gap=("part", (1, 10))), members, 50, [(0, 30), (35, 20)])
        self.check(Grid((), (5, 15), row_gap=("part", (1, 10)), align="end"), [], 20, [(-2, 5), (5, 15)])

    def test_lows_highs_and_caps(self):
        members = [at(1, 1, block(1, 30)), at(1, 2, block(1, 20))]
        for size, row in ((("between", ("part", (1, 5)), "least"), 30), (("between", "auto", ("part", HALF)), 25),
                          (("upto", ("part", HALF)), 30), (("between", ("part", (4, 5)), 5), 20)):
            page = Page(Grid((), (size, "most")), members)
            second = rows_of(page, 100)[0]
            self.assertEqual(second[1], row)
    def test_not_for_a_told_height(self):
        page = Page(Grid((), (("part", HALF), 10)), [at(1, 1, block(1, 30))])
        self.assertEqual(rows_of(page, 100, 40), [(0, 20), (20, 10)])
        self.assertEqual(rows_of(page, 100, 100), [(0, 50), (50, 10)])

    def test_not_without_parts(self):
        # A second time each of them would get a quarter of 15.
        quarter = ("between", 0, share((1, 4)))
        members = [at(1, 1, block(1, 30)), at(1, 2, block(1, 9))]
        self.check(Grid((), (quarter, quarter)), members, 15, [(0, (15, 2)), ((15, 2), (15, 2))])
        self.check(Grid((), (quarter, quarter, ("part", 0))), members, 15,
                   [(0, (15, 4)), ((15, 4), (15, 4)), ((15, 2), 0)])
        self.check(Grid((), (quarter, quarter), row_gap=("part", 0)), members, 15, [(0, (15, 4)), ((15, 4), (15, 4))])

    def test_not_for_rows_that_fell_away(self):
        quarter = ("between", 0, share((1, 4)))
        grid = Grid((), (("fit", (("part", 0),)), quarter, quarter))
        self.check(grid, [at(1, 2, block(1, 30)), at(1, 3, block(1, 9))], 15, [(0, 0), (0, (15, 2)), ((15, 2), (15, 2))])
        self.check(grid, [at(1, 2, block(1, 30)), at(1, 3, block(1, 9)), at(1, 1, block(1, 0))], 15,
                   [(0, 0), (0, (15, 4)), ((15, 4), (15, 4))])

    def test_repeats_stay(self):
        grid = Grid((), (("fill", (10,)), ("part", HALF)))
        self.assertEqual(len(rows_of(Page(grid, [at(1, 2, block(1, 90))]), 100)), 2)

    def test_pages_within(self):
        inner = Page(Grid((), (("part", HALF), 10)), [at(1, 1, block(1, 30))])
        page = Page(Grid(), [Item(inner, align="start")])
        self.assertEqual(inner_of(page, 100)[0][:3], (40, [(0, 100)], [(0, 20), (20, 10)]))
        self.assertEqual(own_height(page, 100), 40)


class BaselinesTest(Case):

    def check_shims(self, members, due, grid=None, width=100, height=None):
        self.check_numbers(shims(Page(grid or Grid(items_align="baseline"), members), width, height), due)

    def check_baseline(self, members, due, grid=None, width=100, height=None):
        self.check_numbers(first_baseline(Page(grid or Grid(), members), width, height), due)

    def words(self, base, height=20, width=10):
        return Words((width,), 0, height, base)

    def test_the_example(self):
        page = Page(Grid(items_align="baseline"), [
            Item(Words((10,), 0, 12, 9), column=(1, None), row=(1, None)),
            Item(Words((10,), 0, 20, 16), column=(2, None), row=(1, None), margins=(5, 0, 0, 0))])
        self.assertEqual((shims(page, 50), first_baseline(page, 50)), ([12, 0], 21))

    def test_bases(self):
        deep = at(2, 1, self.words(50))
        for content, base in ((self.words(7), 7), (self.words(30), 30), (Words((), 0, 9, 8), 0), (block(5, 9), 9),
                              (self.words((5, 2)), (5, 2)), (Page(Grid((), (11,))), 11),
                              (Page(Grid(), [Item(self.words(13))]), 13)):
            due = 50 - base if not isinstance(base, tuple) else (95, 2)
            self.check_shims([at(1, 1, content), deep], [due, 0])

    def test_margins_above(self):
        self.check_shims([at(1, 1, self.words(9), margins=(5, 1, 70, 2)), at(2, 1, self.words(11))], [0, 3])
        self.check_shims([at(1, 1, self.words(9), margins=(-5, 0, 0, 0)), at(2, 1, self.words(3), margins=(-9, 0, 0, 0))],
                         [0, 10])

    def test_groups(self):
        self.check_shims([at(1, 1, self.words(5)), at(2, 2, self.words(9)), at(3, 1, self.words(7)), at(4, (1, 3), self.words(8)),
                          at(5, 2, self.words(2))], [3, 0, 1, 0, 7])
        self.check_shims([at(1, 1, self.words(5), align="start"), at(2, 1, self.words(9)), at(3, 1, self.words(7))],
                         [0, 0, 2])
        self.check_shims([at(1, 1, self.words(5), align="baseline"), at(2, 1, self.words(9)),
                          at(3, 1, self.words(7), align="baseline")], [2, 0, 0], Grid(items_align="start"))
        self.check_shims([], [])

    def test_a_shim_is_a_further_margin(self):
        page = Page(Grid(items_align="baseline"), [at(1, 1, self.words(5, 30)), at(2, 1, self.words(25, 30))])
        self.assertEqual(own_height(page, 100), 50)
        self.assertEqual(boxes_of(page, 100)[0][1], 20)
        page = Page(Grid((), (("between", "auto", 35),), items_align="baseline"), page.members)
        self.assertEqual(own_height(page, 100), 35)

    def test_pages_in_groups(self):
        inner = Page(Grid((share(1),), (share(1),)), [Item(self.words(5, 10), align="end")])
        deep = at(2, 1, self.words(50, 60))
        # For no height the row is 10 high; in a height of 40 the words stand 30 lower.
        self.check_shims([at(1, 1, inner), deep], [45, 0])
        self.check_shims([at(1, 1, inner, height=40), deep], [15, 0])
        self.check_shims([at(1, 1, inner, height=40, greatest_height=30), deep], [25, 0])
        self.check_shims([at(1, 1, inner, least_height=40), deep], [45, 0])

    def test_the_width_of_pages_in_groups(self):
        inner = Page(Grid(), [Item(block(5, 7), margins=(0, 0, 0, 0)), Item(WORDS)])
        self.check_shims([at(1, 1, Page(Grid(), [Item(WORDS), Item(WORDS)])), at(2, 1, self.words(50))], [41, 0])
        self.check_shims([at(1, 1, inner), at(2, 1, self.words(50))], [43, 0])

    def test_the_first_baseline(self):
        self.check_baseline([], 0)
        self.check_baseline([], 35, Grid((), (35,)))
        self.check_baseline([], 80, Grid((), (35,)), height=80)
        self.check_baseline([Item(self.words(7))], 7)
        self.check_baseline([Item(self.words(7), margins=(4, 0, 0, 0))], 11)
        self.check_baseline([Item(block(5, 9), margins=(4, 0, 0, 0))], 13)
        self.check_baseline([Item(Words((), 0, 5, 3))], 0)
        self.check_baseline([Item(self.words(7), align="end")], 47, Grid((), (60,)))
        self.check_baseline([Item(self.words(7), align="center")], 27, Grid((), (60,)))
        self.check_baseline([Item(self.words(7))], 37, Grid((), (20,), align="end"), height=50)

    def test_of_the_least_row(self):
        self.check_baseline([at(1, 2, self.words(7)), at(2, 3, self.words(8))], 27, Grid((), (20, 20, 20)))
        self.check_baseline([at(1, 3, self.words(7)), at(1, (2, 4), self.words(8))], 28, Grid((), (20, 20, 20)))
        self.check_baseline([at(1, 1, self.words(7)), at(1, (("a", -1), 1), self.words(3))], 3, Grid((), (20,)))

    def test_one_of_the_way_baseline_first(self):
        members = [at(1, 1, self.words(7)), at(2, 1, self.words(8), align="baseline"),
                   at(3, 1, self.words(5), align="baseline")]
        self.check_baseline(members, 8)
        self.check_baseline([at(1, 1, self.words(7)), at(1, 2, self.words(8), align="baseline")], 7)

    def test_by_column_order_and_index(self):
        grid = Grid((10, 10, 10), (20,))
        self.check_baseline([at(2, 1, self.words(5)), at(1, 1, self.words(6)), at(3, 1, self.words(7))], 6, grid)
        self.check_baseline([at(1, 1, self.words(5), order=2), at(1, 1, self.words(6), order=1)], 6, grid)
        self.check_baseline([at(1, 1, self.words(5)), at(1, 1, self.words(6))], 5, grid)
        self.check_baseline([at(2, 1, self.words(5), order=-9), at(1, 1, self.words(6), order=9)], 6, grid)
        self.check_baseline([at((1, 3), 1, self.words(5)), at(1, 1, self.words(6), order=-1)], 6, grid)
        self.check_baseline([at((2, 3), 1, self.words(5)), at((1, 4), 1, self.words(6))], 6, grid)

    def test_pages_within(self):
        inner = Page(Grid((share(1),), (share(1),)), [Item(self.words(5, 10), align="end")])
        # Stretched, the inner page is as high as the row; otherwise it has its own height.
        self.check_baseline([Item(inner)], 55, Grid((), (60,)))
        self.check_baseline([Item(inner, align="start")], 5, Grid((), (60,)))
        self.check_baseline([Item(inner, align="end")], 55, Grid((), (60,)))
        self.check_baseline([Item(inner, align="center", height=30)], 40, Grid((), (60,)))
        self.check_baseline([Item(inner, align="baseline", height=30)], 25, Grid((), (60,)))
        self.check_baseline([Item(Page(Grid((), (60,)), [Item(inner)]), margins=(3, 0, 0, 0))], 58)
        self.check_baseline([Item(Page(Grid((), (9,))), margins=(3, 0, 0, 0))], 12)


class ErrorsTest(Case):

    def calls(self):
        return (areas, shims, first_baseline)

    def test_the_page(self):
        for call in self.calls():
            self.check_place(NoPage, {"part": "page", "index": -1}, lambda value: call(value, 50), ("page",))
            self.check_raises(NoPage, {"part": "page", "index": -1}, call, None, None, "a")
        self.check_place(NoPage, {"part": "page", "index": -1}, lambda value: own_height(value, 50), ("page",))
        self.check_raises(NoPage, {"part": "page", "index": -1}, own_height, None, None)

    def test_the_width(self):
        page = Page(Grid())
        for call in (*self.calls(), own_height):
            self.check_place(NoNumber, {"part": "width"}, lambda value: call(page, value), ("zero", "one", "huge", "half"))
        for call in self.calls():
            self.check_raises(NoNumber, {"part": "width"}, call, page, None, -1)
            self.check_raises(NoNumber, {"part": "width"}, call, page, width=-1, height=None)

    def test_the_height(self):
        page = Page(Grid())
        for call in self.calls():
            self.check_place(NoNumber, {"part": "height"}, lambda value: call(page, 50, value),
                             ("none", "zero", "one", "huge", "half"))
            self.assertEqual(call(height=5, width=5, page=page), call(page, 5, 5))

    def test_many_lanes(self):
        columns = Page(Grid((("fill", (10,)),)))
        rows = Page(Grid((), (("fit", (10,)),)), [Item(block(1, 1))])
        for call in (*self.calls(), own_height):
            for page in (columns, Page(Grid(), [Item(columns)])):
                self.assertIsNotNone(call(page, 600))
                self.check_raises(ManyLanes, {"axis": "column"}, call, page, 610)
        for call in self.calls():
            for page in (rows, Page(Grid(), [Item(rows)]), Page(Grid(), [Item(block(1, 1)), Item(rows, row=(1, 3))])):
                self.assertIsNotNone(call(page, 50, 600))
                self.assertIsNotNone(call(page, 50))
                self.check_raises(ManyLanes, {"axis": "row"}, call, page, 50, 1000)
            self.check_raises(NoNumber, {"part": "height"}, call, columns, 610, -1)

    def test_many_lanes_of_both_axes(self):
        page = Page(Grid((("fill", (10,)),), (("fit", (10,)),)))
        for call, height in itertools.product(self.calls(), (5, 610)):
            self.check_raises(ManyLanes, {"axis": "column"}, call, page, 610, height)
            if height == 610:
                self.check_raises(ManyLanes, {"axis": "row"}, call, page, 600, height)


if __name__ == "__main__":
    unittest.main()
