"""The examples of the document, word for word."""

import unittest

from tests.sessions import run_session

CONTENTS = """
>>> from gridlanes.contents import Words, height_in, least_width, lines_in, most_width
>>> w = Words((30, 20, (25, 2)), 5, 12, 9)
>>> [least_width(w), most_width(w), lines_in(w, 55), height_in(w, 55)]
[30, (145, 2), [(0, 2), (2, 3)], 24]
"""

GRID = """
>>> from gridlanes.pages import Grid
>>> Grid((("fill", ("auto",)),))
raises NoGrid('columns', -1)
"""

REPEATS = """
>>> from gridlanes.pages import Grid
>>> from gridlanes.repeats import repeats_of
>>> grid = Grid((50, ("fill", (("between", 100, ("share", 1)),))), column_gap=10)
>>> [repeats_of(grid, "column", 270), repeats_of(grid, "column", (539, 2)), repeats_of(grid, "column", None)]
[2, 1, 1]
"""

LANE_SIZES = """
>>> from gridlanes.pages import Grid
>>> from gridlanes.repeats import lane_sizes
>>> grid = Grid((50,), more_columns=(10, 20, 30))
>>> lane_sizes(grid, "column", 0, -2, 4)
[20, 30, 50, 10, 20, 30]
"""

FALLEN_LANES = """
>>> from gridlanes.pages import Grid
>>> from gridlanes.repeats import fallen_lanes
>>> grid = Grid((50, ("fit", (100,))))
>>> fallen_lanes(grid, "column", 4, [(0, 2), (3, 4)])
[2, 4]
"""

CONTRIBUTIONS = """
>>> from gridlanes.contents import Words
>>> from gridlanes.contributions import contributions
>>> from gridlanes.pages import Item
>>> item = Item(Words((30, 20), 5, 12, 9), margins=(0, 1, 0, 1))
>>> [contributions(item, "column", ("auto",), 0), contributions(item, "column", (("share", 1), 10), 4), contributions(item, "column", (("between", "auto", 12), 10), 4)]
[(32, 57, 32, 32, 57), (32, 57, 2, 32, 57), (32, 57, 26, 26, 26)]
"""

# Of layouts only what these modules tell of them: the layout itself stands in a later stage.
OWN_SIZES = """
>>> from gridlanes.contents import Words
>>> from gridlanes.own import own_widths
>>> from gridlanes.pages import Grid, Item, Page
>>> from gridlanes.rows import own_height
>>> p = Page(Grid((30, 'auto'), column_gap=4), [Item(Words((20, 50, 10), 5, 12, 9), column=(2, None))])
>>> (own_widths(p), own_height(p, 100))
((84, 124), 24)
"""

BASELINES = """
>>> from gridlanes.contents import Words
>>> from gridlanes.pages import Grid, Item, Page
>>> from gridlanes.rows import first_baseline, shims
>>> p = Page(Grid(items_align='baseline'), [Item(Words((10,), 0, 12, 9), column=(1, None), row=(1, None)), Item(Words((10,), 0, 20, 16), column=(2, None), row=(1, None), margins=(5, 0, 0, 0))])
>>> (shims(p, 50), first_baseline(p, 50))
([12, 0], 21)
"""

INHERITED = """
>>> from gridlanes.contents import Block
>>> from gridlanes.own import own_widths
>>> from gridlanes.pages import Grid, Item, Page
>>> q = Page(Grid(('inherited', ()), column_gap=10), [Item(Block(30, 5), column=(1, None)), Item(Block(50, 5), column=(2, None))])
>>> p = Page(Grid(('auto', 'auto')), [Item(q, column=(1, 3))])
>>> own_widths(p)
(90, 90)
"""

SIZED_LANES = """
>>> from gridlanes.lanes import sized_lanes
>>> crossings = [(0, 1, (30, 80, 30, 30, 80)), (0, 2, (100, 100, 50, 100, 100))]
>>> [sized_lanes(("auto", ("share", 1), 40), 10, crossings, room) for room in (200, "least", "most")]
[[80, 60, 40], [30, 60, 40], [80, 10, 40]]
"""

LANE_STATES = """
>>> from gridlanes.lanes import lane_states
>>> lane_states(("auto", "auto"), 0, [(0, 2, (30, 80, 30, 30, 80))], 100)[-3:]
[(('ends',), (15, 15), (40, 40)), (('grown',), (40, 40), (40, 40)), (('shared',), (40, 40), (40, 40))]
"""

# Those within the points, put into the form of sessions.
LINES_POINTS = """
>>> from gridlanes.lines import edges_of, lines_of
>>> from gridlanes.pages import Grid
>>> g = Grid((("names", ("a",)), 10, ("repeat", 2, (20, ("names", ("b",))))), fields=(("f", "f", "."),))
>>> lines_of(g, "column")
[['a', 'f-start'], [], ['b', 'f-end'], ['b']]
>>> edges_of(g, "column", ("f", None))
('at', 0, 1)
>>> edges_of(g, "column", (("b", 3), ("span", 2, "a")))
('at', 4, 6)
>>> edges_of(g, "column", (-1, 1))
('at', 0, 3)
>>> edges_of(g, "column", (("span", 2, "b"), None))
('span', 1)
"""

PLACES_POINT = """
>>> from gridlanes.contents import Block
>>> from gridlanes.pages import Grid, Item, Page
>>> from gridlanes.walks import places
>>> b = Block(1, 1)
>>> some = [Item(b, column=(("span", 2), None)), Item(b, column=(2, 4)), Item(b), Item(b)]
>>> places(Page(Grid((10, 10, 10)), some))
([(0, 2, 0, 1), (1, 3, 1, 2), (0, 1, 2, 3), (1, 2, 2, 3)], ((0, 3), (0, 3)))
>>> places(Page(Grid((10, 10, 10), dense=True), some))
([(0, 2, 0, 1), (1, 3, 1, 2), (2, 3, 0, 1), (0, 1, 1, 2)], ((0, 3), (0, 2)))
"""

REPEATS_POINT = """
>>> from gridlanes.pages import Grid
>>> from gridlanes.repeats import repeats_of
>>> grid = Grid((50, ("fill", (("between", 100, ("share", 1)),))), column_gap=10)
>>> repeats_of(grid, "column", 270)
2
>>> repeats_of(grid, "column", (539, 2))
1
"""

CONTRIBUTIONS_POINT = """
>>> from gridlanes.contents import Words
>>> from gridlanes.contributions import contributions
>>> from gridlanes.pages import Item
>>> i = Item(Words((30, 20), 5, 12, 9), margins=(0, 1, 0, 1))
>>> contributions(i, "column", ("auto",), 0)
(32, 57, 32, 32, 57)
>>> contributions(i, "column", (("share", 1), 10), 4)
(32, 57, 2, 32, 57)
>>> contributions(i, "column", (("between", "auto", 12), 10), 4)
(32, 57, 26, 26, 26)
>>> contributions(i, "row", ("auto",), 0, inner=54)
(24, 24, 24, 24, 24)
"""

SHIMS_POINT = """
>>> from gridlanes.contents import Words
>>> from gridlanes.pages import Grid, Item, Page
>>> from gridlanes.rows import shims
>>> one = Item(Words((10,), 0, 12, 9), align="baseline", column=(1, None), row=(1, None))
>>> other = Item(Words((10,), 0, 20, 16), align="baseline", column=(2, None), row=(1, None), margins=(5, 0, 0, 0))
>>> shims(Page(Grid(), [one, other]), 0)
[12, 0]
"""

WRONG = """
>>> from gridlanes.pages import Grid
>>> Grid((("fill", ("auto",)),))
raises NoGrid('rows', -1)
>>> Grid((40,)).columns
(41,)
>>> Grid().columns
raises NoGrid('columns', -1)
"""


class ExamplesTest(unittest.TestCase):

    def check(self, text):
        pairs = run_session(text)
        self.assertGreater(len(pairs), 0)
        for found, due in pairs:
            self.assertEqual(found, due)

    def test_contents(self):
        self.check(CONTENTS)

    def test_grid(self):
        self.check(GRID)

    def test_repeats(self):
        self.check(REPEATS)
        self.check(REPEATS_POINT)

    def test_lane_sizes(self):
        self.check(LANE_SIZES)

    def test_fallen_lanes(self):
        self.check(FALLEN_LANES)

    def test_contributions(self):
        self.check(CONTRIBUTIONS)
        self.check(CONTRIBUTIONS_POINT)

    def test_own_sizes(self):
        self.check(OWN_SIZES)

    def test_baselines(self):
        self.check(BASELINES)
        self.check(SHIMS_POINT)

    def test_inherited(self):
        self.check(INHERITED)

    def test_lanes(self):
        self.check(SIZED_LANES)
        self.check(LANE_STATES)

    def test_lines(self):
        self.check(LINES_POINTS)

    def test_places(self):
        self.check(PLACES_POINT)

    def test_a_wrong_session_is_seen(self):
        self.assertEqual([found == due for found, due in run_session(WRONG)], [False, False, False])


if __name__ == "__main__":
    unittest.main()
