"""The examples of the document, word for word."""

import unittest

from tests.document import SESSIONS
from tests.sessions import run_session

# Those within the points, put into the form of sessions.
LINES_POINTS = """
>>> from gridlanes.lines import edges_of, lines_of
>>> from gridlanes.pages import Grid
>>> g = Grid((("names", ("a",)), 10, ("repeat", 2, (20, ("names", ("b",))))), fields=(("f", "f", "."),))
>>> lines_of(g, "column")
[['a', 'f-start'], [], ['b', 'f-end'], ['b']]
>>> edges_of(g, "column", ("f", None))
('at', 0, 1)
>>> edges_of(g, "column", (("b", 3), ("span", 2, "a")))
('at', 4, 6)
>>> edges_of(g, "column", (-1, 1))
('at', 0, 3)
>>> edges_of(g, "column", (("span", 2, "b"), None))
('span', 1)
"""

PLACES_POINT = """
>>> from gridlanes.contents import Block
>>> from gridlanes.pages import Grid, Item, Page
>>> from gridlanes.walks import places
>>> b = Block(1, 1)
>>> some = [Item(b, column=(("span", 2), None)), Item(b, column=(2, 4)), Item(b), Item(b)]
>>> places(Page(Grid((10, 10, 10)), some))
([(0, 2, 0, 1), (1, 3, 1, 2), (0, 1, 2, 3), (1, 2, 2, 3)], ((0, 3), (0, 3)))
>>> places(Page(Grid((10, 10, 10), dense=True), some))
([(0, 2, 0, 1), (1, 3, 1, 2), (2, 3, 0, 1), (0, 1, 1, 2)], ((0, 3), (0, 2)))
"""

REPEATS_POINT = """
>>> from gridlanes.pages import Grid
>>> from gridlanes.repeats import repeats_of
>>> grid = Grid((50, ("fill", (("between", 100, ("share", 1)),))), column_gap=10)
>>> repeats_of(grid, "column", 270)
2
>>> repeats_of(grid, "column", (539, 2))
1
"""

CONTRIBUTIONS_POINT = """
>>> from gridlanes.contents import Words
>>> from gridlanes.contributions import contributions
>>> from gridlanes.pages import Item
>>> i = Item(Words((30, 20), 5, 12, 9), margins=(0, 1, 0, 1))
>>> contributions(i, "column", ("auto",), 0)
(32, 57, 32, 32, 57)
>>> contributions(i, "column", (("share", 1), 10), 4)
(32, 57, 2, 32, 57)
>>> contributions(i, "column", (("between", "auto", 12), 10), 4)
(32, 57, 26, 26, 26)
>>> contributions(i, "row", ("auto",), 0, inner=54)
(24, 24, 24, 24, 24)
"""

SHIMS_POINT = """
>>> from gridlanes.contents import Words
>>> from gridlanes.pages import Grid, Item, Page
>>> from gridlanes.rows import shims
>>> one = Item(Words((10,), 0, 12, 9), align="baseline", column=(1, None), row=(1, None))
>>> other = Item(Words((10,), 0, 20, 16), align="baseline", column=(2, None), row=(1, None), margins=(5, 0, 0, 0))
>>> shims(Page(Grid(), [one, other]), 0)
[12, 0]
"""

LAYOUT_POINT = """
>>> from gridlanes.contents import Words
>>> from gridlanes.layouts import layout
>>> from gridlanes.own import own_widths
>>> from gridlanes.pages import Grid, Item, Page
>>> from gridlanes.rows import own_height
>>> p = Page(Grid((30, "auto"), column_gap=4), [Item(Words((20, 50, 10), 5, 12, 9), column=(2, None))])
>>> [own_widths(p), own_height(p, 100)]
[(84, 124), 24]
>>> [layout(p, 100).columns, layout(p, 100).rows, layout(p, 100).boxes]
[[(0, 30), (34, 66)], [(0, 24)], [(34, 0, 66, 24)]]
"""

INHERITED_POINT = """
>>> from gridlanes.contents import Block
>>> from gridlanes.layouts import layout
>>> from gridlanes.own import own_widths
>>> from gridlanes.pages import Grid, Item, Page
>>> blocks = [Item(Block(30, 5), column=(1, None)), Item(Block(50, 5), column=(2, None))]
>>> q = Page(Grid(("inherited", ()), column_gap=10), blocks)
>>> p = Page(Grid(("auto", "auto")), [Item(q, column=(1, 3))])
>>> own_widths(p)
(90, 90)
>>> layout(p, 90).inner[0].columns
[(0, 30), (40, 50)]
>>> [size for start, size in layout(p, 90).columns]
[35, 55]
"""

PATHS_POINT = """
>>> from gridlanes.contents import Words
>>> from gridlanes.pages import Grid, Item, Page
>>> from gridlanes.paths import length_at
>>> page = Page(Grid((5, ("between", 7, 9))), [Item(Words((1, 2, 3), 4, 5, 6))])
>>> length_at(page, ("members", 0, "content", "widths", 2))
3
>>> length_at(page, ("grid", "columns", 1, 2))
9
"""

PIECES_POINT = """
>>> from gridlanes.pages import Grid, Page
>>> from gridlanes.pieces import pieces
>>> pieces(Page(Grid((("between", 20, ("share", 1)), 30))), "width", 0, None)
[(0, True, None, False, ((0, 1), (0, 0)), ())]
"""

WRONG = """
>>> from gridlanes.pages import Grid
>>> Grid((("fill", ("auto",)),))
raises NoGrid('rows', -1)
>>> Grid((40,)).columns
(41,)
>>> Grid().columns
raises NoGrid('columns', -1)
"""


class ExamplesTest(unittest.TestCase):

    def check(self, text):
        pairs = run_session(text)
        self.assertGreater(len(pairs), 0)
        for found, due in pairs:
            self.assertEqual(found, due)

    def test_the_section_of_examples(self):
        self.assertEqual(len(SESSIONS), 17)
        for text in SESSIONS:
            with self.subTest(text):
                self.check(text)

    def test_contributions(self):
        self.check(CONTRIBUTIONS_POINT)

    def test_repeats(self):
        self.check(REPEATS_POINT)

    def test_baselines(self):
        self.check(SHIMS_POINT)

    def test_lines(self):
        self.check(LINES_POINTS)

    def test_places(self):
        self.check(PLACES_POINT)

    def test_layouts(self):
        self.check(LAYOUT_POINT)

    def test_inherited(self):
        self.check(INHERITED_POINT)

    def test_paths(self):
        self.check(PATHS_POINT)

    def test_pieces(self):
        self.check(PIECES_POINT)

    def test_a_wrong_session_is_seen(self):
        self.assertEqual([found == due for found, due in run_session(WRONG)], [False, False, False])


if __name__ == "__main__":
    unittest.main()
