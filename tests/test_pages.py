"""Promise [14]: Page, and what [2] and [3] say of it."""

import inspect
import itertools
import unittest

from gridlanes.contents import Block, Words
from gridlanes.errors import NoPage
from gridlanes.pages import Grid, Item, Page
from tests.support import Case, all_values

TOLD = (5,)
INHERITED = ("inherited", ())
NAMED = ("inherited", (("a",), ("b",)))


def page_item(columns=(), rows=()):
    return Item(Page(Grid(columns, rows)))


class PageTest(Case):

    def test_attributes(self):
        grid = Grid((5,))
        one = Item(Block(1, 2))
        other = Item(Words((), 0, 0, 0))
        page = Page(grid, [one, other, one])
        self.assertEqual(list(vars(page)), ["grid", "members"])
        self.assertIs(page.grid, grid)
        self.assertIsInstance(page.members, tuple)
        for found, due in zip(page.members, (one, other, one), strict=True):
            self.assertIs(found, due)
        self.assertEqual(Page(grid).members, ())

    def test_parameters(self):
        parameters = inspect.signature(Page).parameters
        self.assertEqual(list(parameters), ["grid", "members"])
        self.assertEqual(parameters["members"].default, ())
        self.assertEqual(Page(members=(), grid=Grid()), Page(Grid()))

    def test_defined_in_the_file_and_in_the_class(self):
        self.assertEqual(Page.__module__, "gridlanes.pages")
        self.assertTrue("__init__" in vars(Page) and "__eq__" in vars(Page))

    def test_later_changes_of_the_list_have_no_effect(self):
        members = [Item(Block(1, 2))]
        page = Page(Grid(), members)
        members.append(Item(Block(3, 4)))
        members[0] = None
        self.assertEqual(page.members, (Item(Block(1, 2)),))

    def test_the_list_is_not_changed(self):
        members = [Item(Block(1, 2)), Item(Block(3, 4))]
        kept = list(members)
        Page(Grid(), members)
        self.assertTrue(all(one is other for one, other in zip(members, kept, strict=True)))

    def test_equal_just_if_all_attributes_are(self):
        item = Item(Block(1, 2))
        self.assertTrue(Page(Grid(), [item]) == Page(Grid(), (Item(Block(1, 2)),)))
        self.assertFalse(Page(Grid(), [item]) != Page(Grid(), (Item(Block(1, 2)),)))
        for other in (Page(Grid((5,)), [item]), Page(Grid()), Page(Grid(), [item, item]),
                      Page(Grid(), [Item(Block(1, 1))])):
            self.assertFalse(Page(Grid(), [item]) == other)
            self.assertTrue(Page(Grid(), [item]) != other)
        one = Item(Block(1, 1))
        self.assertFalse(Page(Grid(), [item, one]) == Page(Grid(), [one, item]))

    def test_pages_within_count_for_equality(self):
        def nested(width):
            return Page(Grid(), [Item(Page(Grid(), [Item(Page(Grid(), [Item(Block(width, 2))]))]))])
        self.assertTrue(nested(1) == nested(1))
        self.assertFalse(nested(1) == nested(2))

    def test_equal_to_nothing_of_another_kind(self):
        for label, value in all_values().items():
            with self.subTest(label):
                self.assertEqual(Page(Grid()) == value, label == "page")
                self.assertEqual(Page(Grid()) != value, label != "page")

    def test_grid_of_all_kinds(self):
        self.check_place(NoPage, {"part": "grid", "index": -1}, Page, ("grid",))

    def test_members_of_all_kinds(self):
        right = ("no tuple items", "no list items")
        for label, value in all_values().items():
            with self.subTest(label):
                index = 0 if isinstance(value, (list, tuple)) else -1
                due = None if label in right else {"part": "members", "index": index}
                if due is None:
                    self.assertEqual(Page(Grid(), value).members, ())
                else:
                    self.check_raises(NoPage, due, Page, Grid(), value)

    def test_each_member_of_all_kinds(self):
        item = Item(Block(1, 2))
        for kind in (list, tuple):
            for many in (1, 2, 12):
                for index in range(many):
                    def with_member(value):
                        return Page(Grid(), kind([item] * index + [value] + [item] * (many - index - 1)))
                    self.check_place(NoPage, {"part": "members", "index": index}, with_member, ("item",))

    def test_how_many_members(self):
        item = Item(Block(1, 2))
        for kind in (list, tuple):
            for many in (0, 1, 11, 12):
                self.assertEqual(len(Page(Grid(), kind([item] * many)).members), many)
            for many in (13, 14, 100):
                self.check_raises(NoPage, {"part": "members", "index": -1}, Page, Grid(), kind([item] * many))
                self.check_raises(NoPage, {"part": "members", "index": -1}, Page, Grid(), kind([None] * many))

    def test_the_first_wrong_one(self):
        item = Item(Block(1, 2))
        self.check_raises(NoPage, {"part": "grid", "index": -1}, Page, None, None)
        self.check_raises(NoPage, {"part": "grid", "index": -1}, Page, Page(Grid()), [item] * 13)
        self.check_raises(NoPage, {"part": "grid", "index": -1}, Page, members=[None], grid=True)
        self.check_raises(NoPage, {"part": "members", "index": 1}, Page, Grid(), [item, None, item, 5])

    def test_members_are_items_not_contents(self):
        for value in (Block(1, 2), Words((), 0, 0, 0), Page(Grid()), Grid()):
            self.check_raises(NoPage, {"part": "members", "index": 0}, Page, Grid(), [value])


class InheritedTest(Case):

    def test_an_axis_that_both_inherit(self):
        templates = (TOLD, (), INHERITED, NAMED)
        for columns, rows, inner_columns, inner_rows in itertools.product(templates, repeat=4):
            grid = Grid(columns, rows)
            members = [Item(Block(1, 2)), page_item(), page_item(inner_columns, inner_rows)]
            inherited = (INHERITED, NAMED)
            is_wrong = columns in inherited and inner_columns in inherited
            is_wrong = is_wrong or (rows in inherited and inner_rows in inherited)
            if is_wrong:
                self.check_raises(NoPage, {"part": "members", "index": 2}, Page, grid, members)
            else:
                self.assertEqual(Page(grid, members).members[2], members[2])

    def test_one_axis_each_is_allowed(self):
        self.assertEqual(len(Page(Grid(INHERITED), [page_item(TOLD, INHERITED)]).members), 1)
        self.assertEqual(len(Page(Grid((), INHERITED), [page_item(INHERITED, TOLD)]).members), 1)

    def test_the_first_of_both_kinds(self):
        fields = {"part": "members", "index": 1}
        self.check_raises(NoPage, fields, Page, Grid(INHERITED), [page_item(), page_item(INHERITED), None])
        self.check_raises(NoPage, fields, Page, Grid(INHERITED), [page_item(), None, page_item(INHERITED)])
        self.check_raises(NoPage, fields, Page, Grid((), NAMED), [page_item(), page_item((), NAMED), None])

    def test_pages_further_within_do_not_count(self):
        between = Page(Grid(), [page_item(INHERITED, INHERITED)])
        self.assertEqual(len(Page(Grid(INHERITED, INHERITED), [Item(between)]).members), 1)

    def test_three_deep_and_more(self):
        page = Page(Grid(), [Item(Block(1, 2))])
        for _ in range(5):
            page = Page(Grid(), [Item(page)])
        self.assertEqual(len(page.members), 1)


if __name__ == "__main__":
    unittest.main()
