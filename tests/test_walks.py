"""Promises [21], [22], [23], [24] and [25]: areas, and the walk of the items that look for one."""

import itertools
import random
import unittest

from gridlanes.contents import Block
from gridlanes.errors import ManyLanes, NoNumber, NoPage
from gridlanes.lines import Lines, edges_of
from gridlanes.pages import Grid, Item, Page
from gridlanes.walks import places, walk_page
from tests.literal_walk import cells_of, literal_walk
from tests.support import Case, HUGE

BLOCK = Block(1, 1)


def item(column=(None, None), row=(None, None), order=0):
    return Item(BLOCK, column=column, row=row, order=order)


def span(k):
    return (("span", k), None)


def turned_page(page):
    """The page with columns and rows exchanged, and the flow, too."""
    grid = page.grid
    flow = "row" if grid.flow == "column" else "column"
    members = [Item(BLOCK, column=member.row, row=member.column, order=member.order) for member in page.members]
    return Page(Grid(grid.rows, grid.columns, fields=tuple(zip(*grid.fields)), flow=flow, dense=grid.dense), members)


def random_edges(rng):
    kind = rng.randrange(8)
    if kind < 3:
        return (None, None)
    if kind == 3:
        return (("span", rng.randint(1, 4)), None)
    if kind == 4:
        return (rng.choice((-4, -3, -2, -1, 1, 2, 3, 4)), rng.choice((None, ("span", 2), -1, 3, "a")))
    if kind == 5:
        return (rng.randint(1, 5), None)
    if kind == 6:
        return (None, rng.choice((1, 2, 3, -1, -5, "a", ("a", -2))))
    return (("span", 2), rng.choice((None, 3, 4, ("span", 3))))


def random_page(rng, dense, flow="row"):
    lanes = (5, ("names", ("a",)))
    grid = Grid(lanes * rng.randint(0, 3), lanes * rng.randint(0, 3), dense=dense, flow=flow)
    members = [item(random_edges(rng), random_edges(rng), rng.choice((0, 0, 0, -1, 1)))
               for _ in range(rng.randint(0, 7))]
    return Page(grid, members)


def meanings(page):
    return [(member.order, edges_of(page.grid, "column", member.column), edges_of(page.grid, "row", member.row))
            for member in page.members]


class PlacesTest(Case):

    def check_places(self, page, areas, ends, **named):
        self.assertEqual(places(page, **named), (areas, ends))
        counts = named.get("counts", (1, 1))
        turned = ([area[2:] + area[:2] for area in areas], (ends[1], ends[0]))
        self.assertEqual(places(turned_page(page), counts=(counts[1], counts[0])), turned)

    def check(self, members, areas, ends, columns=(10, 10, 10), rows=(), dense=False):
        self.check_places(Page(Grid(columns, rows, dense=dense), members), areas, ends)

    def test_the_example(self):
        members = [item(span(2)), item((2, 4)), item(), item()]
        self.check(members, [(0, 2, 0, 1), (1, 3, 1, 2), (0, 1, 2, 3), (1, 2, 2, 3)], ((0, 3), (0, 3)))
        self.check(members, [(0, 2, 0, 1), (1, 3, 1, 2), (2, 3, 0, 1), (0, 1, 1, 2)], ((0, 3), (0, 2)), dense=True)

    def test_without_items(self):
        self.check([], [], ((0, 0), (0, 0)), columns=())
        self.check([], [], ((0, 3), (0, 2)), rows=(5, 5))
        self.check_places(Page(Grid(fields=(("a", "b"),))), [], ((0, 2), (0, 1)))

    def test_told_areas(self):
        self.check([item((2, 3), (5, None)), item((2, 3), (5, None)), item((-4, 4), (1, 2))],
                   [(1, 2, 4, 5), (1, 2, 4, 5), (0, 3, 0, 1)], ((0, 3), (0, 5)))
        self.check([item((30, None), (-30, None))], [(29, 30, -27, -26)], ((0, 30), (-27, 2)), rows=(1, 1))

    def test_step_2_takes_the_first_free_columns(self):
        told = item((2, 3), (1, 3))
        self.check([item(span(1), (1, 2)), told], [(0, 1, 0, 1), (1, 2, 0, 2)], ((0, 3), (0, 2)))
        self.check([item(span(2), (1, 2)), told], [(2, 4, 0, 1), (1, 2, 0, 2)], ((0, 4), (0, 2)))
        self.check([item(span(2), (3, 4)), told], [(0, 2, 2, 3), (1, 2, 0, 2)], ((0, 3), (0, 3)))
        self.check([item(span(1), (1, 2)), item(span(1), (2, 3)), item(span(1), (1, 3)), told],
                   [(0, 1, 0, 1), (0, 1, 1, 2), (2, 3, 0, 2), (1, 2, 0, 2)], ((0, 3), (0, 2)))

    def test_step_2_goes_on_if_the_page_is_not_dense(self):
        told = item((2, 3), (1, 2))
        members = [told, item(span(2), (1, 2)), item(span(1), (1, 2)), item(span(1), (2, 3))]
        self.check(members, [(1, 2, 0, 1), (2, 4, 0, 1), (4, 5, 0, 1), (0, 1, 1, 2)], ((0, 5), (0, 2)))
        self.check(members, [(1, 2, 0, 1), (2, 4, 0, 1), (0, 1, 0, 1), (0, 1, 1, 2)], ((0, 4), (0, 2)), dense=True)

    def test_step_2_begins_at_the_first_column(self):
        self.check([item(span(2), (1, 2)), item((-6, -5))], [(-2, 0, 0, 1), (-2, -1, 1, 2)], ((-2, 3), (0, 2)))
        self.check([item(span(3), (1, 2)), item((-6, -5), (1, 2))], [(-1, 2, 0, 1), (-2, -1, 0, 1)],
                   ((-2, 3), (0, 1)))

    def test_where_columns_end(self):
        self.check([item(), item(), item()], [(0, 1, 0, 1), (1, 2, 0, 1), (0, 1, 1, 2)], ((0, 2), (0, 2)),
                   columns=(1, 1))
        self.check([item(), item(), item(span(3))], [(0, 1, 0, 1), (1, 2, 0, 1), (0, 3, 1, 2)], ((0, 3), (0, 2)),
                   columns=(1,))
        self.check([item(), item(), item((3, 4))], [(0, 1, 0, 1), (1, 2, 0, 1), (2, 3, 0, 1)], ((0, 3), (0, 1)),
                   columns=(1,))
        self.check([item(), item(), item((3, 4), (2, 3)), item()],
                   [(0, 1, 0, 1), (1, 2, 0, 1), (2, 3, 1, 2), (2, 3, 0, 1)], ((0, 3), (0, 2)), columns=(1,))
        self.check([item(span(2), (2, 3)), item(), item(), item()],
                   [(0, 2, 1, 2), (0, 1, 0, 1), (1, 2, 0, 1), (0, 1, 2, 3)], ((0, 2), (0, 3)), columns=(1,))
        self.check([item((-3, -2), (1, 2)), item(span(3))], [(-2, -1, 0, 1), (-2, 1, 1, 2)], ((-2, 1), (0, 2)),
                   columns=())

    def test_without_columns(self):
        self.check([item(), item(), item()], [(0, 1, 0, 1), (0, 1, 1, 2), (0, 1, 2, 3)], ((0, 1), (0, 3)), columns=())

    def test_the_cursor(self):
        self.check([item((3, 4)), item((2, 3)), item((2, 3)), item((3, 4)), item()],
                   [(2, 3, 0, 1), (1, 2, 1, 2), (1, 2, 2, 3), (2, 3, 2, 3), (0, 1, 3, 4)], ((0, 3), (0, 4)))
        self.check([item((3, 4)), item((2, 3)), item((2, 3)), item((3, 4)), item()],
                   [(2, 3, 0, 1), (1, 2, 0, 1), (1, 2, 1, 2), (2, 3, 1, 2), (0, 1, 0, 1)], ((0, 3), (0, 2)), dense=True)

    def test_told_columns_go_down_to_a_free_row(self):
        taken = item((2, 3), (1, 4))
        self.check([taken, item((2, 3), span(2)), item()], [(1, 2, 0, 3), (1, 2, 3, 5), (2, 3, 3, 4)],
                   ((0, 3), (0, 5)))
        self.check([taken, item((1, 4)), item()], [(1, 2, 0, 3), (0, 3, 3, 4), (0, 1, 4, 5)], ((0, 3), (0, 5)))
        self.check([taken, item((1, 4)), item()], [(1, 2, 0, 3), (0, 3, 3, 4), (0, 1, 0, 1)], ((0, 3), (0, 4)),
                   dense=True)

    def test_spans_down(self):
        self.check([item(row=span(2)), item(span(2)), item(span(2)), item()],
                   [(0, 1, 0, 2), (1, 3, 0, 1), (1, 3, 1, 2), (0, 1, 2, 3)], ((0, 3), (0, 3)))

    def test_the_first_row(self):
        self.check([item((1, 2), (-3, -2)), item(), item()], [(0, 1, -1, 0), (1, 2, -1, 0), (2, 3, -1, 0)],
                   ((0, 3), (-1, 1)), rows=(5,))
        self.check([item(span(1), (-3, -2)), item(), item()], [(0, 1, -1, 0), (1, 2, -1, 0), (2, 3, -1, 0)],
                   ((0, 3), (-1, 1)), rows=(5,))

    def test_the_order(self):
        members = [item(order=1), item(), item(order=-HUGE), item(order=1), item(order=HUGE)]
        self.check(members, [(2, 3, 0, 1), (1, 2, 0, 1), (0, 1, 0, 1), (0, 1, 1, 2), (1, 2, 1, 2)], ((0, 3), (0, 2)))
        members = [item(span(2), (1, 2), 1), item(span(1), (1, 2))]
        self.check(members, [(1, 3, 0, 1), (0, 1, 0, 1)], ((0, 3), (0, 1)))

    def test_the_flow_column(self):
        page = Page(Grid((5, 5), (5, 5, 5), flow="column"), [item(), item(span(2)), item(), item()])
        self.check_places(page, [(0, 1, 0, 1), (0, 2, 1, 2), (0, 1, 2, 3), (1, 2, 0, 1)], ((0, 2), (0, 3)))
        page = Page(Grid((5, 5), (5, 5, 5), flow="column"), [item(row=(2, 3)), item(), item((2, 3)), item((1, 2))])
        self.check_places(page, [(0, 1, 1, 2), (0, 1, 2, 3), (1, 2, 0, 1), (0, 1, 0, 1)], ((0, 2), (0, 3)))

    def test_names_and_fields(self):
        grid = Grid((5, ("names", ("a",)), 5, 5), fields=(("f", "f", "."), (".", ".", "g")))
        members = [item(("f", "f"), ("f", "f")), item(("g", "g"), ("g", "g")), item(("a", None)), item()]
        self.check_places(Page(grid, members), [(0, 2, 0, 1), (2, 3, 1, 2), (1, 2, 1, 2), (0, 1, 2, 3)],
                          ((0, 3), (0, 3)))

    def test_counts(self):
        grid = Grid((("fill", (5, 5)), 5), (("fit", (5,)),))
        members = [item(order=k) for k in range(8)]
        page = Page(grid, members)
        self.check_places(page, places(page)[0], ((0, 3), (0, 3)))
        self.check_places(page, [(k % 7, k % 7 + 1, k // 7, k // 7 + 1) for k in range(8)], ((0, 7), (0, 5)),
                          counts=(3, 5))
        self.assertEqual(places(Page(grid)), places(Page(grid), counts=(1, 1)))
        self.check_places(Page(grid), [], ((0, 3), (0, 1)))
        self.check_places(Page(grid), [], ((0, 5), (0, 3)), counts=(2, 3))
        page = Page(grid, [item((-1, None), (-1, None))])
        self.check_places(page, [(5, 6, 59, 60)], ((0, 6), (0, 60)), counts=(2, 59))

    def test_inherited_templates_count_as_none(self):
        page = Page(Grid(("inherited", (("a",),)), ("inherited", ())), [item((3, None)), item(("a", None))])
        self.check_places(page, [(2, 3, 0, 1), (1, 2, 1, 2)], ((0, 3), (0, 2)))

    def test_wide_spans(self):
        self.check([item(span(30)), item(span(29)), item(), item(span(2))],
                   [(0, 30, 0, 1), (0, 29, 1, 2), (29, 30, 1, 2), (0, 2, 2, 3)], ((0, 30), (0, 3)))

    def test_what_is_returned_is_new(self):
        page = Page(Grid((5, 5)), [item(), item()])
        places(page)[0].append(None)
        self.assertEqual(places(page), ([(0, 1, 0, 1), (1, 2, 0, 1)], ((0, 2), (0, 1))))
        found = places(page=page, counts=(1, 1))
        self.assertIsInstance(found, tuple)
        self.assertIsInstance(found[0], list)
        self.assertIsInstance(found[1], tuple)


class LiteralTest(Case):
    """Many pages, compared with the walk written out cell by cell."""

    def test_many_pages(self):
        rng = random.Random(23)
        for _ in range(1500):
            dense = rng.random() < 0.5
            page = random_page(rng, dense)
            areas, ends = places(page)
            items = meanings(page)
            many = len([size for size in page.grid.columns if size == 5])
            self.assertEqual(areas, literal_walk(items, many, dense))
            rows = len([size for size in page.grid.rows if size == 5])
            self.assertEqual(ends, (
                (min([0] + [area[0] for area in areas]), max([many] + [area[1] for area in areas])),
                (min([0] + [area[2] for area in areas]), max([rows] + [area[3] for area in areas])),
            ))
            turned = ([area[2:] + area[:2] for area in areas], (ends[1], ends[0]))
            self.assertEqual(places(turned_page(page)), turned)


class FactsTest(Case):
    """Promise [24]."""

    def test_who_shares_cells(self):
        rng = random.Random(24)
        for _ in range(400):
            page = random_page(rng, rng.random() < 0.5, rng.choice(("row", "column")))
            areas, _ = places(page)
            items = meanings(page)
            told = [entry[1][0] == "at" and entry[2][0] == "at" for entry in items]
            for one, other in itertools.combinations(range(len(items)), 2):
                if not (told[one] and told[other]):
                    self.assertFalse(cells_of(areas[one]) & cells_of(areas[other]))

    def test_told_items_stay_in_every_order(self):
        rng = random.Random(240)
        for _ in range(200):
            page = random_page(rng, rng.random() < 0.5)
            areas, _ = places(page)
            places_now = list(range(len(page.members)))
            rng.shuffle(places_now)
            other, _ = places(Page(page.grid, [page.members[k] for k in places_now]))
            for at, k in enumerate(places_now):
                _, across, down = meanings(page)[k]
                if across[0] == "at" and down[0] == "at":
                    self.assertEqual(other[at], areas[k])

    def test_dense_pages_have_no_free_place_ahead(self):
        rng = random.Random(2400)
        seen = 0
        for _ in range(300):
            page = random_page(rng, True)
            areas, ends = places(page)
            items = meanings(page)
            order = sorted(range(len(items)), key=lambda k: (items[k][0], k))
            taken = set()
            for k in order:
                if items[k][2][0] == "at":
                    taken |= cells_of(areas[k])
            for k in order:
                if items[k][2][0] == "span":
                    if items[k][1][0] == "span":
                        seen += 1
                        wide, tall = items[k][1][1], items[k][2][1]
                        for row in range(ends[1][0], areas[k][2] + 1):
                            for column in range(ends[0][0], ends[0][1] - wide + 1):
                                if (row, column) < (areas[k][2], areas[k][0]):
                                    area = (column, column + wide, row, row + tall)
                                    self.assertTrue(cells_of(area) & taken)
                    taken |= cells_of(areas[k])
        self.assertGreater(seen, 200)


class InheritedTest(Case):
    """Promise [25], by the function behind places."""

    def check_walk(self, page, many_columns, many_rows, areas):
        """The number of lanes of an axis is None if it is not inherited."""
        lines = [Lines([[]] * ((many or 0) + 1), many is not None) for many in (many_columns, many_rows)]
        ends = walk_page(page, lines[0], lines[1])[1]
        self.assertEqual(walk_page(page, lines[0], lines[1])[0], areas)
        for many, end in zip((many_columns, many_rows), ends):
            if many is not None:
                self.assertEqual(end, (0, many))

    def page(self, members, flow="row", dense=False):
        return Page(Grid(flow=flow, dense=dense), members)

    def test_cut_edges(self):
        page = self.page([item((-5, 5), (1, 2)), item((-5, -4), (7, 8)), item((6, None), (-9, 9))])
        self.check_walk(page, 3, 2, [(0, 3, 0, 1), (0, 1, 1, 2), (2, 3, 0, 2)])

    def test_columns_end_at_the_last_one(self):
        page = self.page([item(span(5)), item(), item(span(2)), item(span(2))])
        self.check_walk(page, 3, None, [(0, 3, 0, 1), (0, 1, 1, 2), (1, 3, 1, 2), (0, 2, 2, 3)])
        self.check_walk(page, 1, None, [(0, 1, 0, 1), (0, 1, 1, 2), (0, 1, 2, 3), (0, 1, 3, 4)])

    def test_step_2_goes_beyond_and_is_moved_back(self):
        page = self.page([item(span(2), (1, 2)), item(span(2), (1, 2)), item(span(2), (1, 2)), item()])
        self.check_walk(page, 3, None, [(0, 2, 0, 1), (1, 3, 0, 1), (1, 3, 0, 1), (0, 1, 1, 2)])
        self.check_walk(page, 4, None, [(0, 2, 0, 1), (2, 4, 0, 1), (2, 4, 0, 1), (0, 1, 1, 2)])

    def test_rows_are_moved_back(self):
        page = self.page([item(), item(row=span(2)), item(row=span(9)), item()])
        self.check_walk(page, 1, 2, [(0, 1, 0, 1), (0, 1, 0, 2), (0, 1, 0, 2), (0, 1, 1, 2)])
        self.check_walk(page, None, 2, [(0, 1, 0, 1), (0, 1, 0, 2), (0, 1, 0, 2), (0, 1, 1, 2)])

    def test_the_flow_column(self):
        page = self.page([item(row=span(5)), item(), item(row=span(2)), item(row=span(2))], flow="column")
        self.check_walk(page, None, 3, [(0, 1, 0, 3), (1, 2, 0, 1), (1, 2, 1, 3), (2, 3, 0, 2)])
        self.check_walk(page, 2, 3, [(0, 1, 0, 3), (1, 2, 0, 1), (1, 2, 1, 3), (1, 2, 0, 2)])

    def test_many_pages(self):
        rng = random.Random(25)
        for _ in range(600):
            dense = rng.random() < 0.5
            page = random_page(rng, dense)
            many = (rng.choice((None, 1, 2, 4)), rng.choice((None, 1, 2, 4)))
            lines = [Lines([["a"] for _ in range((lanes or 0) + 1)], lanes is not None) for lanes in many]
            items = []
            for member in page.members:
                told = []
                for lanes, edges in zip(many, (member.column, member.row)):
                    count = lanes or 0
                    grid = Grid((("names", ("a",)),) + (5, ("names", ("a",))) * count)
                    told.append(self.cut(edges_of(grid, "column", edges), lanes))
                items.append((member.order, told[0], told[1]))
            due = literal_walk(items, many[0] or 0, dense, many[0] is not None, many[1] is not None, many[1])
            self.assertEqual(walk_page(page, lines[0], lines[1])[0], due)

    def cut(self, meaning, lanes):
        if lanes is None:
            return meaning
        if meaning[0] == "span":
            return ("span", min(meaning[1], lanes))
        first = sorted((0, meaning[1], lanes - 1))[1]
        behind = min(meaning[2], lanes)
        return ("at", first, behind if behind > first else first + 1)


class ErrorsTest(Case):

    def test_the_page(self):
        self.check_place(NoPage, {"part": "page", "index": -1}, places, ("page",))
        self.check_raises(NoPage, {"part": "page", "index": -1}, places, None, counts=None)

    def test_the_counts(self):
        page = Page(Grid((("fill", (5,)),)))
        fields = {"part": "counts"}
        self.check_place(NoNumber, fields, lambda value: places(page, counts=value), ("half", "one whole", "two fourths"))
        self.check_place(NoNumber, fields, lambda value: places(page, counts=(value, 1)), ("one",))
        self.check_place(NoNumber, fields, lambda value: places(page, counts=(1, value)), ("one",))
        for counts in ((0, 1), (1, 0), (61, 1), (1, 61), (-1, 1), (1, HUGE), (1,), (1, 1, 1), [1, 1]):
            self.check_raises(NoNumber, fields, places, page, counts=counts)
        self.assertEqual(places(page, counts=(60, 60))[1], ((0, 60), (0, 0)))

    def test_too_many_lanes_told(self):
        columns, rows = (("fill", (5, 5)),), (("fit", (5,)), 5)
        for grid, counts, axis in ((Grid(columns), (31, 1), "column"), (Grid((), rows), (1, 60), "row"),
                                   (Grid(columns, rows), (31, 60), "column")):
            self.check_raises(ManyLanes, {"axis": axis}, places, Page(grid), counts=counts)
        self.assertEqual(places(Page(Grid(columns, rows)), counts=(30, 59))[1], ((0, 60), (0, 60)))
        self.check_raises(NoNumber, {"part": "counts"}, places, Page(Grid(columns)), counts=(31, 61))

    def test_just_sixty(self):
        grid = Grid((5,) * 31, (5,) * 31)
        for last, is_raised in ((29, False), (30, True)):
            page = Page(grid, [item((("b", last), None))])
            behind = 31 + last + 1
            self.assertEqual(raised_axis(page), "column" if behind > 60 else None)
            page = Page(grid, [item(row=(("b", last), None))])
            self.assertEqual(raised_axis(page), "row" if behind > 60 else None)

    def test_lanes_ahead_count(self):
        for ahead in range(1, 31):
            page = Page(Grid((5,) * 40), [item((("b", 0 - ahead), None)), item((None, None))])
            self.assertEqual(raised_axis(page), "column" if ahead > 20 else None)

    def test_told_lanes_come_first(self):
        grid = Grid((5,) * 40, (("fill", (5, 5)),))
        page = Page(grid, [item((("b", 30), None))])
        self.check_raises(ManyLanes, {"axis": "row"}, places, page, counts=(1, 31))
        self.check_raises(ManyLanes, {"axis": "column"}, places, page, counts=(1, 30))
        page = Page(grid, [item((("b", 30), None), (("b", 30), None))])
        self.check_raises(ManyLanes, {"axis": "column"}, places, page, counts=(1, 20))

    def test_keyword_only(self):
        with self.assertRaises(TypeError):
            places(Page(Grid()), (1, 1))


def raised_axis(page):
    try:
        places(page)
    except ManyLanes as error:
        return error.axis
    return None


if __name__ == "__main__":
    unittest.main()
