"""Promises [16], [17], [18] and [19]: the names of lines, and what two edges mean."""

import unittest

from gridlanes import lines
from gridlanes.errors import ManyLanes, NoAxis, NoGrid, NoItem, NoNumber
from gridlanes.lines import edges_of, lines_of
from gridlanes.pages import Grid
from tests.support import Case, HUGE, all_values

# Two a, two b, one c; the field f from line 1 to line 3.
NAMED = (("names", ("a",)), 10, ("names", ("b",)), 10, ("names", ("c", "a")), 10, ("names", ("b",)), 10)
GRID = Grid(NAMED, fields=((".", "f", "f", "."),))
EXAMPLE = Grid((("names", ("a",)), 10, ("repeat", 2, (20, ("names", ("b",))))), fields=(("f", "f", "."),))


def names(*given):
    return ("names", given)


def turned(grid):
    """The grid with columns and rows exchanged."""
    fields = tuple(zip(*grid.fields))
    return Grid(grid.rows, grid.columns, fields=fields, flow="row", column_gap=grid.row_gap, row_gap=grid.column_gap)


class LinesTest(Case):

    def check_lines(self, grid, due, **named):
        self.assertEqual(lines_of(grid, "column", **named), due)
        self.assertEqual(lines_of(turned(grid), "row", **named), due)

    def test_no_lanes(self):
        self.check_lines(Grid(), [[]])
        self.check_lines(Grid((names("b", "a"), names("c"))), [["a", "b", "c"]])

    def test_the_axes(self):
        grid = Grid((names("a"), 1), (1, names("b"), 1), fields=(("f",), ("f",), ("g",)))
        self.assertEqual(lines_of(grid, "column"), [["a", "f-start", "g-start"], ["f-end", "g-end"]])
        self.assertEqual(lines_of(grid, "row"), [["f-start"], ["b"], ["f-end", "g-start"], ["g-end"]])

    def test_names_at_their_places(self):
        self.check_lines(GRID, [["a"], ["b", "f-start"], ["a", "c"], ["b", "f-end"], []])
        self.check_lines(Grid((10, names("a"))), [[], ["a"]])

    def test_ascending_and_each_once(self):
        self.check_lines(Grid((names("b", "a", "b"), names("a"), 5, names("z", "b-c", "b1", "b"))),
                         [["a", "b"], ["b", "b-c", "b1", "z"]])

    def test_names_of_fields_and_the_template_together(self):
        grid = Grid((names("f-start", "f"), 5, names("f-end", "a")), fields=(("f",),))
        self.check_lines(grid, [["f", "f-start"], ["a", "f-end"]])

    def test_repeats(self):
        self.check_lines(Grid((("repeat", 3, (5,)),)), [[], [], [], []])
        both = (names("a"), 5, names("b"))
        self.check_lines(Grid((("repeat", 3, both),)), [["a"], ["a", "b"], ["a", "b"], ["b"]])
        self.check_lines(Grid((("repeat", 2, both), ("repeat", 1, (names("c"), 5, 6, names("d"))))),
                         [["a"], ["a", "b"], ["b", "c"], [], ["d"]])
        self.check_lines(Grid((names("x"), ("repeat", 2, both), names("y"))), [["a", "x"], ["a", "b"], ["b", "y"]])

    def test_fills_and_fits(self):
        for word in ("fill", "fit"):
            grid = Grid((5, names("x"), (word, (names("a"), 5, names("b"), 6)), names("y"), 7))
            self.check_lines(grid, [[], ["a", "x"], ["b"], ["y"], []])
            self.check_lines(grid, [[], ["a", "x"], ["b"], ["y"], []], count=1)
            self.check_lines(grid, [[], ["a", "x"], ["b"], ["a"], ["b"], ["a"], ["b"], ["y"], []], count=3)
            for count in range(1, 30):
                self.assertEqual(len(lines_of(grid, "column", count=count)), 3 + 2 * count)

    def test_the_count_has_no_effect_without_a_fill(self):
        for count in (1, 2, 59, 60):
            self.check_lines(GRID, lines_of(GRID, "column"), count=count)

    def test_fields_of_more_lanes_than_the_template(self):
        grid = Grid((names("a"), 5, names("b")), fields=((".", "f", "g"), (".", "f", ".")))
        self.check_lines(grid, [["a"], ["b", "f-start"], ["f-end", "g-start"], ["g-end"]])
        self.check_lines(Grid(fields=((".", "."),)), [[], [], []])

    def test_fields_of_fewer_lanes_than_the_template(self):
        self.check_lines(Grid((5, 5, 5, names("a")), fields=(("f",),)), [["f-start"], ["f-end"], [], ["a"]])

    def test_long_names_of_fields(self):
        name = "a" * 16
        self.check_lines(Grid(fields=((name,),)), [[name + "-start"], [name + "-end"]])

    def test_an_inherited_template_counts_as_none(self):
        grid = Grid(("inherited", (("a",), ("b",))), fields=(("f",),))
        self.check_lines(grid, [["f-start"], ["f-end"]])
        self.assertEqual(lines_of(Grid(("inherited", (("a",),))), "column"), [[]])

    def test_sixty_lanes(self):
        self.assertEqual(lines_of(Grid((("repeat", 20, (1, 1)),)), "column"), [[]] * 41)
        grid = Grid((("fill", (5, 5)),))
        self.assertEqual(lines_of(grid, "column", count=30), [[]] * 61)
        self.check_raises(ManyLanes, {"axis": "column"}, lines_of, grid, "column", count=31)
        grid = Grid((), (("fit", (5,)), 1))
        self.assertEqual(lines_of(grid, "row", count=59), [[]] * 61)
        self.check_raises(ManyLanes, {"axis": "row"}, lines_of, grid, "row", count=60)
        self.assertEqual(lines_of(grid, "column", count=60), [[]])

    def test_what_is_returned_is_new(self):
        found = lines_of(GRID, "column")
        found[0].append("z")
        found.append([])
        self.assertEqual(lines_of(GRID, "column")[0], ["a"])
        self.assertIsInstance(found, list)
        self.assertEqual(GRID, Grid(NAMED, fields=((".", "f", "f", "."),)))


class EdgesTest(Case):

    def check_edges(self, start, end, due, grid=GRID, **named):
        with self.subTest((start, end)):
            self.assertEqual(edges_of(grid, "column", (start, end), **named), due)
            self.assertEqual(edges_of(turned(grid), "row", (start, end), **named), due)

    def test_the_example(self):
        self.check_edges("f", None, ("at", 0, 1), EXAMPLE)
        self.check_edges(("b", 3), ("span", 2, "a"), ("at", 4, 6), EXAMPLE)
        self.check_edges(-1, 1, ("at", 0, 3), EXAMPLE)
        self.check_edges(("span", 2, "b"), None, ("span", 1), EXAMPLE)

    def test_integers(self):
        for k in range(1, 31):
            self.check_edges(k, None, ("at", k - 1, k))
            self.check_edges(None, k, ("at", k - 2, k - 1))
            self.check_edges(-k, None, ("at", 5 - k, 6 - k))
            self.check_edges(None, -k, ("at", 4 - k, 5 - k))

    def test_integers_without_lanes(self):
        for edge, line in ((1, 0), (2, 1), (30, 29), (-1, 0), (-2, -1), (-30, -29)):
            self.check_edges(edge, None, ("at", line, line + 1), Grid())

    def test_counted_names(self):
        for edge, line in ((("a", 1), 0), (("a", 2), 2), (("a", 3), 5), (("a", 4), 6), (("a", 30), 32),
                           (("a", -1), 2), (("a", -2), 0), (("a", -3), -1), (("a", -4), -2), (("a", -30), -28),
                           (("b", 1), 1), (("b", 2), 3), (("b", 3), 5), (("b", -1), 3), (("b", -2), 1),
                           (("b", -3), -1), (("c", 1), 2), (("c", 2), 5), (("c", -1), 2), (("c", -2), -1),
                           (("none", 1), 5), (("none", 2), 6), (("none", -1), -1), (("none", -2), -2),
                           (("f-start", 1), 1), (("f-start", 2), 5), (("f-end", -1), 3), (("f-end", -2), -1),
                           (("f", 1), 5), (("f", -1), -1)):
            self.check_edges(edge, None, ("at", line, line + 1))
            self.check_edges(None, edge, ("at", line - 1, line))

    def test_a_line_counts_once_for_a_name(self):
        grid = Grid((names("a"), names("a"), 5, names("a", "a"), 5))
        self.check_edges(("a", 2), None, ("at", 1, 2), grid)
        self.check_edges(("a", 3), None, ("at", 3, 4), grid)

    def test_names_alone(self):
        self.check_edges("a", None, ("at", 0, 1))
        self.check_edges(None, "a", ("at", -1, 0))
        self.check_edges("b", None, ("at", 1, 2))
        self.check_edges("c", None, ("at", 2, 3))
        self.check_edges("none", None, ("at", 5, 6))
        self.check_edges(None, "none", ("at", 4, 5))
        self.check_edges("f", "f", ("at", 1, 3))
        self.check_edges("f", None, ("at", 1, 2))
        self.check_edges(None, "f", ("at", 2, 3))
        self.check_edges("f-start", None, ("at", 1, 2))
        self.check_edges("f-end", "f-start", ("at", 1, 3))

    def test_starts_and_ends_that_the_template_names(self):
        grid = Grid((5, names("x-end", "x"), 5, names("x-start"), 5, names("x-start", "x-end"), 5))
        self.check_edges("x", None, ("at", 2, 3), grid)
        self.check_edges(None, "x", ("at", 0, 1), grid)
        self.check_edges("x", "x", ("at", 1, 2), grid)
        grid = Grid((5, names("x"), 5, names("x-end"), 5), fields=((".", ".", "y"),))
        self.check_edges("x", None, ("at", 1, 2), grid)
        self.check_edges("x", "x", ("at", 1, 2), grid)
        self.check_edges("y", "y", ("at", 2, 3), grid)
        grid = Grid((names("y-start"), 5, 5, 5, names("y-end")), fields=((".", "y", "."),))
        self.check_edges("y", None, ("at", 0, 1), grid)
        self.check_edges(None, "y", ("at", 1, 2), grid)

    def test_a_counted_name_means_no_field(self):
        self.check_edges(("f", 1), ("f", 2), ("at", 5, 6))

    def test_no_line(self):
        spans = (None, ("span", 1), ("span", 2), ("span", 30), ("span", 2, "a"), ("span", 1, "none"))
        for start in spans:
            for end in spans:
                k = 1
                if start is not None and len(start) == 2:
                    k = start[1]
                elif start is None and end is not None and len(end) == 2:
                    k = end[1]
                self.check_edges(start, end, ("span", k))

    def test_spans_by_numbers(self):
        for k in (1, 2, 3, 30):
            self.check_edges(2, ("span", k), ("at", 1, 1 + k))
            self.check_edges(("span", k), 4, ("at", 3 - k, 3))
            self.check_edges(-30, ("span", k), ("at", -25, k - 25))
            self.check_edges(("span", k), ("a", -1), ("at", 2 - k, 2))

    def test_spans_by_names_behind(self):
        for start, edge, line in ((1, ("span", 1, "a"), 2), (1, ("span", 2, "a"), 5), (1, ("span", 3, "a"), 6),
                                  (1, ("span", 1, "b"), 1), (1, ("span", 2, "b"), 3), (1, ("span", 4, "b"), 6),
                                  (2, ("span", 1, "b"), 3), (2, ("span", 2, "b"), 5), (3, ("span", 1, "c"), 5),
                                  (2, ("span", 1, "c"), 2), (5, ("span", 1, "a"), 5), (5, ("span", 2, "a"), 6),
                                  (6, ("span", 1, "a"), 6), (8, ("span", 1, "a"), 8), (8, ("span", 3, "a"), 10),
                                  (-9, ("span", 1, "a"), 0), (-9, ("span", 2, "a"), 2), (-9, ("span", 3, "a"), 5),
                                  (-9, ("span", 1, "none"), 5), (2, ("span", 1, "f-end"), 3),
                                  (1, ("span", 1, "f-start"), 1), (1, ("span", 1, "f"), 5)):
            first = start - 1 if start > 0 else 5 + start
            self.check_edges(start, edge, ("at", first, line))

    def test_spans_by_names_ahead(self):
        for end, edge, line in ((5, ("span", 1, "a"), 2), (5, ("span", 2, "a"), 0), (5, ("span", 3, "a"), -1),
                                (5, ("span", 4, "a"), -2), (3, ("span", 1, "a"), 0), (3, ("span", 2, "a"), -1),
                                (4, ("span", 1, "b"), 1), (4, ("span", 2, "b"), -1), (1, ("span", 1, "a"), -1),
                                (1, ("span", 2, "a"), -2), (-6, ("span", 1, "a"), -2), (-8, ("span", 1, "a"), -4),
                                (-8, ("span", 3, "a"), -6), (9, ("span", 1, "a"), 2), (9, ("span", 2, "b"), 1),
                                (9, ("span", 1, "none"), -1), (2, ("span", 1, "c"), -1)):
            behind = end - 1 if end > 0 else 5 + end
            self.check_edges(edge, end, ("at", line, behind))

    def test_two_lines(self):
        self.check_edges(1, 3, ("at", 0, 2))
        self.check_edges(3, 1, ("at", 0, 2))
        self.check_edges(-1, -3, ("at", 2, 4))
        self.check_edges("f", -1, ("at", 1, 4))
        self.check_edges(-30, 30, ("at", -25, 29))
        self.check_edges(30, -30, ("at", -25, 29))

    def test_one_line_twice(self):
        self.check_edges(3, 3, ("at", 2, 3))
        self.check_edges(-2, 4, ("at", 3, 4))
        self.check_edges("a", ("a", 1), ("at", 0, 1))
        self.check_edges(-5, 1, ("at", 0, 1))

    def test_counts(self):
        grid = Grid((names("a"), ("fill", (5, names("a"))),))
        for count in (1, 2, 7, 59, 60):
            self.check_edges(-1, None, ("at", count, count + 1), grid, count=count)
            self.check_edges(("a", 3), None, ("at", 2, 3), grid, count=count)
            self.check_edges(("a", 30), None, ("at", 29, 30), grid, count=count)
        self.check_edges(-1, None, ("at", 1, 2), grid)

    def test_fields_of_more_lanes_than_the_template(self):
        grid = Grid((5,), fields=(("f", "f", "g"),))
        self.check_edges("g", -1, ("at", 2, 3), grid)
        self.check_edges(-1, None, ("at", 3, 4), grid)

    def test_an_inherited_template_counts_as_none(self):
        grid = Grid(("inherited", (("a",), ("b",))))
        self.check_edges("b", None, ("at", 1, 2), grid)
        self.check_edges(-1, None, ("at", 0, 1), grid)


class ErrorsTest(Case):

    def test_the_grid(self):
        fields = {"part": "grid", "index": -1}
        self.check_place(NoGrid, fields, lambda value: lines_of(value, "column"), ("grid",))
        self.check_place(NoGrid, fields, lambda value: edges_of(value, "column", (1, 2)), ("grid",))

    def test_the_axis(self):
        self.check_place(NoAxis, {}, lambda value: lines_of(GRID, value), ("row",))
        self.check_place(NoAxis, {}, lambda value: edges_of(GRID, value, (1, 2)), ("row",))
        for axis in ("columns", "Column", "column ", "", "rows"):
            self.check_raises(NoAxis, {}, lines_of, GRID, axis)
        self.assertEqual(lines_of(GRID, axis="column"), lines_of(GRID, "column"))

    def test_the_count(self):
        fields = {"part": "count"}
        self.check_place(NoNumber, fields, lambda value: lines_of(GRID, "row", count=value), ("one",))
        self.check_place(NoNumber, fields, lambda value: edges_of(GRID, "row", (1, 2), count=value), ("one",))
        for count in (0, 61, -1, -60, HUGE):
            self.check_raises(NoNumber, fields, lines_of, GRID, "row", count=count)
            self.check_raises(NoNumber, fields, edges_of, GRID, "row", (1, 2), count=count)

    def test_the_edges(self):
        for axis in ("column", "row"):
            fields = {"part": axis}
            self.check_place(NoItem, fields, lambda value: edges_of(GRID, axis, value),
                             ("tuple of none", "tuple of names", "name and integer", "part", "share", "half",
                              "minus half", "two fourths", "one whole", "bottom below", "none mark"))
            edges = [label for label, value in all_values().items() if lines.are_edges((value, None))]
            self.assertEqual(edges, ["none", "one", "minus one", "name", "auto", "start", "stretch", "between",
                                     "baseline", "row", "name and integer", "part", "share"])
            self.check_place(NoItem, fields, lambda value: edges_of(GRID, axis, (value, None)), edges)
            self.check_place(NoItem, fields, lambda value: edges_of(GRID, axis, (1, value)), edges)
            for edges in ((1, 0), (31, 1), (1, -31), (("span", 0), 1), (("span", 31), 1), (1, ("span", 1, "span")),
                          (1,), (1, 2, 3), [1, 2], (1, True), (("a", 0), 1), ("A", 1), (("span", 1, "a", 1), 1)):
                self.check_raises(NoItem, fields, edges_of, GRID, axis, edges)

    def test_many_lanes_come_last(self):
        many = Grid((("fill", (5, 5)),))
        self.check_raises(ManyLanes, {"axis": "column"}, edges_of, many, "column", (1, 2), count=31)
        self.assertEqual(edges_of(many, "column", (1, 2), count=30), ("at", 0, 1))
        self.check_raises(NoItem, {"part": "column"}, edges_of, many, "column", (1, 0), count=31)
        self.check_raises(NoNumber, {"part": "count"}, edges_of, many, "column", (1, 0), count=61)
        self.check_raises(NoNumber, {"part": "count"}, lines_of, many, "column", count=61)

    def test_the_first_one(self):
        self.check_raises(NoGrid, {"part": "grid", "index": -1}, edges_of, None, None, None, count=None)
        self.check_raises(NoAxis, {}, edges_of, GRID, None, None, count=None)
        self.check_raises(NoNumber, {"part": "count"}, edges_of, GRID, "row", None, count=None)
        self.check_raises(NoGrid, {"part": "grid", "index": -1}, lines_of, None, None, count=None)
        self.check_raises(NoAxis, {}, lines_of, GRID, None, count=None)

    def test_keyword_only(self):
        with self.assertRaises(TypeError):
            lines_of(GRID, "row", 1)
        with self.assertRaises(TypeError):
            edges_of(GRID, "row", (1, 2), 1)
        self.assertEqual(edges_of(count=1, edges=(1, 2), axis="column", grid=GRID), ("at", 0, 1))


class InheritedLinesTest(Case):
    """Promise [25], by the functions behind the walk: its lines, and edges that are cut."""

    def test_names(self):
        grid = Grid(("inherited", (("b",), ("c", "a"))))
        found = lines.inherited_lines(grid, "column", [("z",), (), ("a", "y")])
        self.assertEqual(found, [["b", "z"], ["a", "c"], ["a", "y"]])

    def test_names_behind_the_last_line_do_not_count(self):
        grid = Grid((), ("inherited", (("a",), ("b",), ("c",), ("d",))))
        self.assertEqual(lines.inherited_lines(grid, "row", [(), ()]), [["a"], ["b"]])

    def test_fields_end_at_the_last_line(self):
        grid = Grid(("inherited", ()), fields=(("f", "g", "g", "h"),))
        self.assertEqual(lines.inherited_lines(grid, "column", [()] * 3),
                         [["f-start"], ["f-end", "g-start"], ["g-end", "h-end", "h-start"]])
        self.assertEqual(lines.inherited_lines(grid, "column", [()] * 6),
                         [["f-start"], ["f-end", "g-start"], [], ["g-end", "h-start"], ["h-end"], []])

    def test_what_is_cut(self):
        for meaning, due in ((("at", 0, 1), ("at", 0, 1)), (("at", 0, 4), ("at", 0, 4)), (("at", 3, 4), ("at", 3, 4)),
                             (("at", -2, 1), ("at", 0, 1)), (("at", -2, 0), ("at", 0, 1)),
                             (("at", -5, -3), ("at", 0, 1)), (("at", -5, 9), ("at", 0, 4)),
                             (("at", 2, 5), ("at", 2, 4)), (("at", 4, 5), ("at", 3, 4)), (("at", 7, 9), ("at", 3, 4)),
                             (("span", 3), ("span", 3)), (("span", 4), ("span", 4)), (("span", 5), ("span", 4))):
            self.assertEqual(lines.cut_meaning(meaning, 4), due)


if __name__ == "__main__":
    unittest.main()
