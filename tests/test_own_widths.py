"""Promises [46] and [47]: how wide pages are by themselves."""

import unittest

from gridlanes.contents import Block, Words
from gridlanes.errors import ManyLanes, NoPage
from gridlanes.own import own_widths
from gridlanes.pages import Grid, Item, Page
from tests.support import Case

HALF = (1, 2)
WORDS = Words((20, 50, 10), 5, 12, 9)


def share(k):
    return ("share", k)


def at(first, behind=None, content=WORDS, **named):
    return Item(content, column=(first, behind), row=(1, None), **named)


class OwnWidthsTest(Case):

    def check(self, columns, members, due, **named):
        self.check_numbers(own_widths(Page(Grid(columns, **named), members)), due)

    def test_the_example(self):
        page = Page(Grid((30, "auto"), column_gap=4), [Item(Words((20, 50, 10), 5, 12, 9), column=(2, None))])
        self.assertEqual(own_widths(page), (84, 124))

    def test_without_items(self):
        self.check((), [], (0, 0))
        self.check((30, (7, 2), "auto", share(1)), [], ((67, 2), (67, 2)))
        self.check((30, 4), [], (39, 39), column_gap=5)
        self.check((("between", 5, 20),), [], (5, 20))

    def test_words_and_blocks(self):
        self.check((), [Item(WORDS)], (50, 90))
        self.check((), [Item(Block(7, 9))], (7, 7))
        self.check((), [at(1, content=Block(7, 9)), at(2)], (57, 97))
        self.check((), [at(1, content=Block(7, 9)), at(1)], (50, 90))

    def test_sizes_of_columns(self):
        for size, due in (("least", (50, 50)), ("most", (90, 90)), (("upto", 60), (50, 60)), (("upto", 40), (50, 50)),
                          (40, (40, 40)), (("between", 40, "auto"), (40, 90)), (("between", "auto", 60), (50, 60)),
                          (share(1), (50, 90)), (share(HALF), (50, 90)), (("between", 20, share(1)), (20, 90))):
            self.check((size,), [Item(WORDS)], due)

    def test_shares(self):
        self.check((share(1), share(2)), [at(1)], (50, 270))
        self.check((share(1), share(2)), [at(2)], (50, 135))

    def test_parts_count_as_auto(self):
        self.check((("part", HALF),), [Item(WORDS)], (50, 90))
        self.check((("between", 20, ("part", HALF)),), [Item(WORDS)], (20, 90))
        self.check((("upto", ("part", HALF)),), [Item(WORDS)], (50, 90))
        self.check((10, 10), [], (20, 20), column_gap=("part", HALF))

    def test_items_with_sizes_and_margins(self):
        self.check((), [Item(WORDS, margins=(1, 2, 4, 8))], (60, 100))
        self.check((), [Item(WORDS, width=33, margins=(1, 2, 4, 8))], (43, 43))
        self.check((), [Item(WORDS, greatest_width=70)], (50, 70))
        self.check((), [Item(WORDS, least_width=70)], (70, 90))

    def test_items_over_several_columns(self):
        self.check((10, "auto"), [at(1, 3)], (50, 90), column_gap=4)
        self.check(("auto", "auto"), [at(1, 3)], (50, 90), column_gap=4)
        self.check((), [Item(WORDS, column=(("span", 3), None))], (50, 90), column_gap=4)
        self.check((("between", "auto", 20), 10), [at(1, 3)], (34, 34), column_gap=4)

    def test_further_columns(self):
        self.check((30,), [at(3, content=Block(9, 9)), at(-4, content=Block(8, 8))], (90, 90),
                   more_columns=(10, 20))
        self.check((30,), [], (42, 42), fields=(("a", "b"),), more_columns=(12,))

    def test_fills_repeat_once(self):
        self.check((30, ("fill", (10, 20))), [], (70, 70), column_gap=5)
        self.check((("fill", (("between", 10, "auto"),)),), [at(1), at(3)], (60, 180))

    def test_lanes_of_a_fit_that_fall_away(self):
        self.check((30, ("fit", (10, 20))), [], (30, 30), column_gap=5)
        self.check((30, ("fit", (10, 20)), 7), [at(3)], (67, 67), column_gap=5)
        self.check((("fit", (10,)),), [], (0, 0), column_gap=5)

    def test_how_items_follow_one_another(self):
        flow = [Item(Block(7, 1)), Item(Block(9, 1)), Item(Block(11, 1))]
        self.check(("auto", "auto"), flow, (20, 20))
        self.check((), flow, (11, 11))
        self.check((), flow, (27, 27), flow="column")

    def test_the_flow_column_needs_rows(self):
        flow = [Item(Block(7, 1)), Item(Block(9, 1)), Item(Block(11, 1))]
        page = Page(Grid((), (("fill", (5,)),), flow="column"), flow)
        self.assertEqual(own_widths(page), (27, 27))
        page = Page(Grid((), (5, 5), flow="column"), flow)
        self.assertEqual(own_widths(page), (20, 20))

    def test_pages_in_pages(self):
        inner = Page(Grid((30, "auto"), column_gap=4), [Item(WORDS, column=(2, None))])
        self.check((), [Item(inner)], (84, 124))
        self.check((), [Item(inner, margins=(0, 1, 0, 2), greatest_width=100)], (87, 103))
        self.check((20,), [at(1, content=Page(Grid((7,), column_gap=2), [Item(inner), at(2, content=inner)]))], (20, 20))
        middle = Page(Grid((7,), column_gap=2), [Item(inner, column=(2, None), justify="start")])
        self.check((), [Item(middle)], (93, 133))
        self.check((share(1), share(1)), [at(1, content=middle), at(2, content=Block(50, 5))], (143, 266))

    def test_inherited_columns_of_the_outermost_page_count_as_none(self):
        self.check(("inherited", (("a",),)), [Item(WORDS)], (50, 90))

    def test_equal_pages_give_equal_widths(self):
        page = Page(Grid((30, "auto"), column_gap=4), [Item(WORDS, column=(2, None))])
        self.assertEqual([own_widths(page) for _ in range(3)], [(84, 124)] * 3)
        self.assertEqual(vars(page).keys(), {"grid": 0, "members": 0}.keys())
        self.assertIsInstance(own_widths(page=page), tuple)


class ErrorsTest(Case):

    def test_no_page(self):
        self.check_place(NoPage, {"part": "page", "index": -1}, own_widths, ("page",))

    def test_many_lanes(self):
        for axis in ("column", "row"):
            for k, is_raised in ((19, False), (20, True)):
                # Forty lanes are told, and the line of the k-th name lies so many lines behind the last one.
                page = Page(Grid(**{axis + "s": (5,) * 40}), [Item(Block(1, 1), **{axis: (("b", k), None)})])
                outer = Page(Grid(), [Item(WORDS), Item(page)])
                for given in (page, outer, Page(Grid(), [Item(outer)])):
                    if is_raised:
                        self.check_raises(ManyLanes, {"axis": axis}, own_widths, given)
                    else:
                        self.assertEqual(len(own_widths(given)), 2)
        page = Page(Grid((5,) * 40), [Item(Block(1, 1), column=(("b", 19), None))])
        self.assertEqual(own_widths(page), (201, 201))
        page = Page(Grid((5,) * 40), [Item(Block(1, 1), column=(("b", 20), None))])
        self.check_raises(ManyLanes, {"axis": "column"}, own_widths, page)


if __name__ == "__main__":
    unittest.main()
