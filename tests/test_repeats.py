"""Promises [26], [27] and [28]: how often a fill or fit repeats, lanes and their sizes, fallen lanes, gaps."""

import itertools
import unittest

from gridlanes.errors import ManyLanes, NoArea, NoAxis, NoGrid, NoNumber
from gridlanes.pages import Grid
from gridlanes.repeats import fallen_lanes, gap_of, lane_count, lane_sizes, repeats_of, template_sizes
from tests.support import Case, HUGE

NAMES = ("names", ("a",))
HALF = (1, 2)


def share(k):
    return ("share", k)


def grid_of(axis, template=(), *, gap=0, more=("auto",), fields=()):
    """A grid that tells this of one axis, and something else of the other one."""
    if axis == "column":
        return Grid(template, (7,), column_gap=gap, row_gap=50, more_columns=more, more_rows=(9,), fields=fields)
    return Grid((7,), template, column_gap=50, row_gap=gap, more_columns=(9,), more_rows=more,
                fields=tuple(zip(*fields)))


class RepeatsTest(Case):

    def check_repeats(self, template, whole, due, gap=0):
        with self.subTest((template, whole, gap)):
            for axis in ("column", "row"):
                self.check_numbers(repeats_of(grid_of(axis, template, gap=gap), axis, whole), due)

    def check_edge(self, template, whole, due, gap=0):
        """Just so many fit into this whole, one less into a little less."""
        self.check_repeats(template, whole, due, gap)
        self.check_repeats(template, (whole * 1000 - 1, 1000), due - 1, gap)

    def test_the_example(self):
        grid = Grid((50, ("fill", (("between", 100, share(1)),))), column_gap=10)
        self.assertEqual(repeats_of(grid, "column", 270), 2)
        self.assertEqual(repeats_of(grid, "column", (539, 2)), 1)
        self.assertEqual(repeats_of(grid, "column", None), 1)

    def test_neither_fill_nor_fit(self):
        for template in ((), (5, 5), (NAMES,), (("repeat", 3, (5,)),), ("inherited", (("a",),))):
            for whole in (None, 0, 100):
                self.check_repeats(template, whole, 0)

    def test_no_whole(self):
        for word in ("fill", "fit"):
            self.check_repeats(((word, (5,)),), None, 1)
            self.check_repeats(((word, (("part", HALF),)), ("part", 1)), None, 1, ("part", 1))

    def test_just_so_many(self):
        for word in ("fill", "fit"):
            for due in (2, 3, 10, 60):
                self.check_edge(((word, (10,)),), 10 * due, due)
                self.check_edge(((word, (NAMES, 10)),), 10 * due + 7 * (due - 1), due, 7)
            for due in (2, 5, 20):
                template = (3, NAMES, (word, (10, NAMES, 2)), ("repeat", 2, (4,)))
                self.check_edge(template, 11 + 12 * due, due)
                self.check_edge(template, 11 + 12 * due + 2 * due + 2, due, 1)

    def test_at_least_once(self):
        for whole in (0, 1, 99, 100, 199):
            self.check_repeats((("fill", (100,)),), whole, 1)
        self.check_repeats((1000, ("fill", (10,))), 100, 1)

    def test_fractions(self):
        self.check_repeats((("fill", ((1, 3),)),), 1, 3)
        self.check_repeats((("fill", ((1, 3),)),), (99, 100), 2)
        self.check_repeats((("fill", ((5, 2),)),), (35, 2), 4, (5, 2))

    def test_parts(self):
        self.check_repeats((("fill", (("part", (1, 4)),)),), 0, 1)
        self.check_repeats((("fill", (("part", (1, 4)),)),), 80, 4)
        self.check_repeats((("fill", (("part", (1, 4)),)),), 80, 3, ("part", (1, 20)))
        self.check_repeats((("part", HALF), ("fill", (10,))), 100, 5)
        self.check_repeats((("part", HALF), ("fill", (10,))), 99, 4)
        self.check_repeats((10, ("fill", (5,))), 100, 3, ("part", (1, 5)))

    def test_with_what_a_lane_is_counted(self):
        for size, length in ((("between", 10, 20), 20), (("between", 20, 10), 20), (("between", 20, 20), 20),
                             (("between", "auto", 20), 20), (("between", "most", 20), 20), (("between", 20, "auto"), 20),
                             (("between", 20, share(3)), 20), (("between", "least", ("part", (1, 5))), 20),
                             (("between", ("part", (1, 5)), 10), 20), (("between", 1, ("part", (1, 5))), 20),
                             (20, 20), (("part", (1, 5)), 20)):
            self.check_repeats((("fill", (size,)),), 100, 100 // length)
            self.check_repeats((size, ("fill", (10,))), 100, (100 - length) // 10)

    def test_a_repeat_that_adds_nothing(self):
        for word in ("fill", "fit"):
            for size in (0, ("part", 0), ("between", 0, share(1)), ("between", "auto", 0)):
                for whole in (0, 1, 1000):
                    self.check_repeats(((word, (size, size)),), whole, 1)
                    self.check_repeats((5, (word, (size,))), whole, 1)
        self.check_repeats((("fill", (0,)),), 10, 3, 5)
        self.check_repeats((("fill", (("part", 1),)),), 0, 1)

    def test_sixty_lanes(self):
        for axis in ("column", "row"):
            grid = grid_of(axis, (("fill", (1,)),))
            self.assertEqual(repeats_of(grid, axis, 60), 60)
            self.assertEqual(repeats_of(grid, axis, (609, 10)), 60)
            for whole in (61, 62, HUGE):
                self.check_raises(ManyLanes, {"axis": axis}, repeats_of, grid, axis, whole)
            grid = grid_of(axis, (("fit", (1, 1)), 1))
            self.assertEqual(repeats_of(grid, axis, 60), 29)
            self.check_raises(ManyLanes, {"axis": axis}, repeats_of, grid, axis, 61)
            grid = grid_of(axis, (("fill", ((1, HUGE),)),))
            self.check_raises(ManyLanes, {"axis": axis}, repeats_of, grid, axis, 1)

    def test_fields_do_not_count(self):
        grid = grid_of("column", (("fill", (10,)),), fields=(("f",) * 20,))
        self.assertEqual(repeats_of(grid, "column", 30), 3)


class SizesTest(Case):

    def test_template_sizes(self):
        for axis in ("column", "row"):
            grid = grid_of(axis, (NAMES, 5, ("repeat", 2, (NAMES, "auto", share(1))), ("upto", 7)))
            for count in (0, 1, HUGE):
                self.assertEqual(template_sizes(grid, axis, count),
                                 [5, "auto", share(1), "auto", share(1), ("upto", 7)])
            grid = grid_of(axis, (1, ("fit", (2, NAMES, 3)), NAMES, 4))
            for count in (1, 2, 7):
                self.assertEqual(template_sizes(grid, axis, count), [1] + [2, 3] * count + [4])
            for template in ((), (NAMES,), ("inherited", (("a",),))):
                self.assertEqual(template_sizes(grid_of(axis, template), axis, 0), [])

    def test_lane_count(self):
        fields = ((".",) * 4,)
        for axis in ("column", "row"):
            for template, count, due in (((), 0, 4), ((5,), 0, 4), ((5,) * 4, 9, 4), ((5,) * 5, 0, 5),
                                         ((("fill", (5,)),), 3, 4), ((("fill", (5,)),), 5, 5),
                                         (("inherited", ()), 0, 4), ((5, ("fit", (5, 6))), 12, 25)):
                grid = grid_of(axis, template, fields=fields)
                self.check_numbers(lane_count(grid, axis, count), due)
            self.assertEqual(lane_count(grid_of(axis), axis, 0), 0)

    def test_lane_count_by_the_other_axis(self):
        grid = Grid(fields=(("a", "b", "c"),))
        self.assertEqual((lane_count(grid, "column", 0), lane_count(grid, "row", 0)), (3, 1))

    def test_the_example(self):
        grid = Grid((50,), more_columns=(10, 20, 30))
        self.assertEqual(lane_sizes(grid, "column", 0, -2, 4), [20, 30, 50, 10, 20, 30])

    def test_lane_sizes(self):
        for axis in ("column", "row"):
            grid = grid_of(axis, (50, 60), more=(10, 20, 30))
            lanes = [30, 10, 20, 30, 10, 20, 30, 50, 60, 10, 20, 30, 10, 20, 30, 10]
            for first in range(-7, 1):
                for behind in range(2, 10):
                    self.assertEqual(lane_sizes(grid, axis, 0, first, behind), lanes[7 + first:7 + behind])
            grid = grid_of(axis, (("fill", (5,)), 6), more=("most",))
            self.assertEqual(lane_sizes(grid, axis, 2, -1, 4), ["most", 5, 5, 6, "most"])

    def test_lanes_of_fields_have_the_sizes_of_further_ones(self):
        for axis in ("column", "row"):
            grid = grid_of(axis, (50,), more=(10, 20), fields=((".",) * 4,))
            self.assertEqual(lane_sizes(grid, axis, 0, -1, 5), [20, 50, 10, 20, 10, 20])
            self.assertEqual(lane_sizes(grid_of(axis, more=(1, 2)), axis, 0, -3, 3), [2, 1, 2, 1, 2, 1])

    def test_gap_of(self):
        for axis in ("column", "row"):
            for gap, whole, due in ((0, 5, 0), (3, None, 3), (3, 100, 3), ((7, 2), 0, (7, 2)), (("part", HALF), None, 0),
                                    (("part", HALF), 30, 15), (("part", HALF), (1, 3), (1, 6)), (("part", 3), 7, 21),
                                    (("part", 0), 7, 0), (("part", (2, 3)), (3, 2), 1)):
                self.check_numbers(gap_of(grid_of(axis, gap=gap), axis, whole), due)

    def test_what_is_returned_is_new(self):
        grid = grid_of("column", (5, ("fit", (6,))))
        for call in (lambda: template_sizes(grid, "column", 1), lambda: lane_sizes(grid, "column", 1, 0, 2),
                     lambda: fallen_lanes(grid, "column", 1, [])):
            due = list(call())
            call().append(None)
            self.assertEqual(call(), due)
            self.assertIsInstance(call(), list)
        self.assertEqual(grid, grid_of("column", (5, ("fit", (6,)))))


class FallenTest(Case):

    def check_fallen(self, template, count, areas, due):
        for axis in ("column", "row"):
            for given in (list(areas), tuple(areas)):
                self.assertEqual(fallen_lanes(grid_of(axis, template), axis, count, given), due)

    def test_the_example(self):
        self.assertEqual(fallen_lanes(Grid((50, ("fit", (100,)))), "column", 4, [(0, 2), (3, 4)]), [2, 4])

    def test_just_those_of_a_fit(self):
        self.check_fallen((5, 5), 0, [], [])
        self.check_fallen((5, ("fill", (5,)), 5), 3, [], [])
        self.check_fallen((5, ("fit", (5, NAMES)), 5), 3, [], [1, 2, 3])
        self.check_fallen((("repeat", 2, (5, NAMES, 6)), ("fit", (5, 6)), 5), 2, [], [4, 5, 6, 7])
        self.check_fallen((NAMES, ("fit", (5,))), 1, [], [0])
        self.check_fallen(("inherited", ()), 0, [], [])

    def test_in_none_of_the_areas(self):
        template = (5, ("fit", (5,)), 5)
        for areas, due in (([(0, 1)], [1, 2, 3, 4]), ([(1, 2)], [2, 3, 4]), ([(0, 2)], [2, 3, 4]), ([(4, 5)], [1, 2, 3]),
                           ([(5, 6)], [1, 2, 3, 4]), ([(2, 4)], [1, 4]), ([(-5, 2), (4, 9)], [2, 3]),
                           ([(-5, 9)], []), ([(1, 3), (2, 4), (1, 3)], [4]), ([(-HUGE, HUGE)], []),
                           ([(-HUGE, 1 - HUGE)], [1, 2, 3, 4])):
            self.check_fallen(template, 4, areas, due)

    def test_lanes_of_fields_are_not_of_the_fit(self):
        grid = grid_of("column", (("fit", (5,)),), fields=((".",) * 4,))
        self.assertEqual(fallen_lanes(grid, "column", 2, []), [0, 1])

    def test_areas_of_all_kinds(self):
        grid = Grid((("fit", (5,)),))
        for index in (0, 1, 2):
            def with_area(value):
                return fallen_lanes(grid, "column", 1, [(0, 1)] * index + [value] + [(0, 1)] * (2 - index))
            self.check_place(NoArea, {"index": index}, with_area, ("half", "minus half", "two fourths", "no top"))
            for value in ((1, 1), (1, 0), (2, -2), (1, 2, 3), (1,), [1, 2], (True, 2), (0, True), (0, None), ("a", "b")):
                self.check_raises(NoArea, {"index": index}, with_area, value)

    def test_areas_as_no_list(self):
        grid = Grid((("fit", (5,)),))
        for value in (None, 5, "", "ab", {}, {(0, 1): 1}, {(0, 1)}, frozenset(), range(0), iter([]), b"", grid, True,
                      (k for k in ()), zip(), object(), list):
            self.check_raises(NoArea, {"index": -1}, fallen_lanes, grid, "column", 1, value)
        self.check_raises(NoArea, {"index": 1}, fallen_lanes, grid, "column", 1, [(0, 1), (1, 1), None])


class ErrorsTest(Case):

    def calls(self):
        """For each function a call with a grid, an axis and a third argument."""
        return {
            "whole": [repeats_of, gap_of],
            "count": [template_sizes, lane_count,
                      lambda grid, axis, count: lane_sizes(grid, axis, count, 0, 60),
                      lambda grid, axis, count: fallen_lanes(grid, axis, count, [])],
        }

    def test_the_grid_and_the_axis(self):
        for call in itertools.chain(*self.calls().values()):
            self.check_place(NoGrid, {"part": "grid", "index": -1}, lambda value: call(value, "column", 1), ("grid",))
            self.check_place(NoAxis, {}, lambda value: call(Grid(), value, 1), ("row",))
            self.check_raises(NoGrid, {"part": "grid", "index": -1}, call, None, None, None)
            self.check_raises(NoAxis, {}, call, Grid(), "columns", -1)

    def test_the_whole(self):
        for call in self.calls()["whole"]:
            for grid in (Grid(), Grid((("fill", (("part", 1),)),), column_gap=("part", 1))):
                self.check_place(NoNumber, {"part": "whole"}, lambda value: call(grid, "column", value),
                                 ("none", "zero", "one", "half", "huge"))
                for value in (-1, (-1, 2), (2, 4), True, "1"):
                    self.check_raises(NoNumber, {"part": "whole"}, call, grid, "column", value)

    def test_the_count(self):
        fields = {"part": "count"}
        filled = Grid((("fill", (5,)),), (("fit", (5,)),))
        for call in self.calls()["count"]:
            self.check_place(NoNumber, fields, lambda value: call(Grid(), "column", value), ("zero", "one", "huge"))
            for axis in ("column", "row"):
                self.check_raises(NoNumber, fields, call, filled, axis, 0)
                for value in (-1, (1, 2), True, None, -HUGE):
                    self.check_raises(NoNumber, fields, call, filled, axis, value)
                    self.check_raises(NoNumber, fields, call, Grid(), axis, value)
                self.assertIsNotNone(call(filled, axis, 60))
                for count in (61, HUGE):
                    self.check_raises(ManyLanes, {"axis": axis}, call, filled, axis, count)
        half = Grid((("fill", (5,)),))
        self.assertEqual(lane_count(half, "row", 0), 0)
        self.check_raises(NoNumber, fields, lane_count, half, "column", 0)

    def test_first_and_behind(self):
        grid = Grid((5, 5))

        def call(first, behind, count=0):
            return lane_sizes(grid, "column", count, first, behind)

        def call_unless_many(first, behind):
            try:
                call(first, behind)
            except ManyLanes as error:
                self.assertTrue(behind - first > 60 and error.axis == "column")

        self.check_place(NoNumber, {"part": "first"}, lambda value: call_unless_many(value, 2),
                         ("zero", "minus one", "minus huge"))
        self.check_place(NoNumber, {"part": "behind"}, lambda value: call_unless_many(0, value), ("huge",))
        for value in (1, 2, HUGE, (-1, 2), False):
            self.check_raises(NoNumber, {"part": "first"}, call, value, 2)
        for value in (1, 0, -1, -HUGE, True, (5, 2)):
            self.check_raises(NoNumber, {"part": "behind"}, call, 0, value)
        self.check_raises(NoNumber, {"part": "first"}, call, 1, 1)
        self.check_raises(NoNumber, {"part": "count"}, call, 1, 1, -1)
        wide = Grid((5,), fields=(("a", "b", "c"),))
        self.check_raises(NoNumber, {"part": "behind"}, lane_sizes, wide, "column", 0, 0, 2)
        self.assertEqual(lane_sizes(wide, "column", 0, 0, 3), [5, "auto", "auto"])

    def test_lanes_in_all(self):
        grid = Grid((5, 5), (5,))
        for first, behind in ((0, 60), (-58, 2), (-30, 30)):
            self.assertEqual(len(lane_sizes(grid, "column", 0, first, behind)), 60)
        for first, behind in ((0, 61), (-59, 2), (-31, 30), (-HUGE, 2), (0, HUGE)):
            self.check_raises(ManyLanes, {"axis": "column"}, lane_sizes, grid, "column", 0, first, behind)
        self.check_raises(ManyLanes, {"axis": "row"}, lane_sizes, grid, "row", 0, -30, 31)
        self.check_raises(NoNumber, {"part": "behind"}, lane_sizes, grid, "column", 0, -HUGE, 1)
        filled = Grid((("fill", (5,)),))
        self.check_raises(ManyLanes, {"axis": "column"}, lane_sizes, filled, "column", 61, 1, 1)

    def test_the_areas_come_last(self):
        filled = Grid((("fit", (5,)),))
        self.check_raises(ManyLanes, {"axis": "column"}, fallen_lanes, filled, "column", 61, None)
        self.check_raises(NoNumber, {"part": "count"}, fallen_lanes, filled, "column", 0, None)
        self.check_raises(NoArea, {"index": -1}, fallen_lanes, filled, "column", 1, None)

    def test_by_name(self):
        grid = Grid((5, ("fit", (5,))))
        self.assertEqual(repeats_of(whole=15, axis="column", grid=grid), 2)
        self.assertEqual(template_sizes(count=1, axis="column", grid=grid), [5, 5])
        self.assertEqual(lane_count(count=1, axis="column", grid=grid), 2)
        self.assertEqual(lane_sizes(behind=2, first=0, count=1, axis="column", grid=grid), [5, 5])
        self.assertEqual(fallen_lanes(areas=[], count=1, axis="column", grid=grid), [1])
        self.assertEqual(gap_of(whole=1, axis="column", grid=grid), 0)


if __name__ == "__main__":
    unittest.main()
