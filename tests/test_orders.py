"""Promises [4], [68], [69] and [70]: what the order of the items changes."""

import itertools
import random
import unittest

from gridlanes.contents import Block, Words
from gridlanes.errors import ManyLanes, NoNumber, NoOrder, NoPage, TooMany
from gridlanes.layouts import layout
from gridlanes.orders import first_exchange, keeps, orders_kept, reordered
from gridlanes.pages import Grid, Item, Page
from tests.random_pages import random_page
from tests.short import at, share
from tests.support import Case, all_values, raised
from tests.varied import placed



def block(width, height):
    return Item(Block(width, height))


def looks(page, width, height):
    """The size of a page, and for each item the boxes, its own and those within it, in places of the whole page."""
    found = layout(page, width, height)
    boxes = []
    for index, item in enumerate(page.members):
        alone = layout(page, width, height)
        alone.boxes, alone.inner = [found.boxes[index]], [found.inner[index]]
        boxes.append(placed(alone, Page(page.grid, [item])))
    return (found.width, found.height), boxes


def literal_keeps(page, places, width, height):
    size, boxes = looks(page, width, height)
    other_size, other_boxes = looks(reordered(page, places), width, height)
    return size == other_size and other_boxes == [boxes[place] for place in places]


class ReorderedTest(Case):

    def test_items(self):
        members = [block(k, 1) for k in range(4)]
        page = Page(Grid((5,)), members)
        for places in itertools.permutations(range(4)):
            found = reordered(page, places)
            self.assertTrue(found == Page(Grid((5,)), [members[place] for place in places]))
            self.assertTrue(reordered(page, list(places)) == found)
        self.assertTrue(page == Page(Grid((5,)), members))
        self.assertTrue(reordered(Page(Grid()), ()) == Page(Grid()))
        self.assertTrue(reordered(places=[0], page=Page(Grid(), members[:1])) == Page(Grid(), members[:1]))

    def calls(self):
        return (reordered, lambda page, places: keeps(page, places, 50))

    def test_places(self):
        for many in (0, 1, 3, 12):
            page = Page(Grid(), [block(1, 1)] * many)
            for call in self.calls():
                for label, value in all_values().items():
                    is_as_long = isinstance(value, (list, tuple)) and len(value) == many
                    due = None if many == 0 and is_as_long else (NoOrder, {"index": -1})
                    if many == 0 or not is_as_long:
                        self.assertEqual(raised(call, page, value), due, label)

    def test_each_place(self):
        page = Page(Grid(), [block(1, 1)] * 3)
        for call in self.calls():
            for value in all_values().values():
                is_integer = isinstance(value, int) and not isinstance(value, bool)
                for index in range(3):
                    places = [0, 1, 2]
                    places[index] = value
                    if not is_integer:
                        self.check_raises(NoOrder, {"index": -1}, call, page, places)
            for places, index in (((0, 1), -1), ((0, 1, 2, 0), -1), ((0, 1, 3), 2), ((0, -1, 2), 1), ((3, 3, 3), 0), ((0, 0, 9), 1),
                                  ((0, 1, 0), 2), ((2, 1, 1), 2), ((9, 1, None), -1), ((0, 0, True), -1), ((0, 1, 10 ** 60), 2)):
                self.check_raises(NoOrder, {"index": index}, call, page, places)
                self.check_raises(NoOrder, {"index": index}, call, page, list(places))

    def test_the_page(self):
        self.check_place(NoPage, {"part": "page", "index": -1}, lambda value: reordered(value, ()), ("page",))
        self.check_raises(NoPage, {"part": "page", "index": -1}, reordered, None, None)


class KeepsTest(Case):

    def test_told_places(self):
        page = Page(Grid(("auto", share(1), "least"), ("auto", 10), column_gap=3), [
            at(1, 1, order=4), at((1, 3), 2, order=-1), at(2, (1, 3), Block(40, 30)), at(3, 1, Block(9, 9), order=2)])
        for places in itertools.permutations(range(4)):
            self.assertIs(keeps(page, places, 100), True)
            self.assertIs(keeps(page, list(places), 100, 50), True)
        self.assertEqual(orders_kept(page, 100), list(itertools.permutations(range(4))))
        self.assertIs(first_exchange(page, 100), None)

    def test_where_the_order_matters(self):
        page = Page(Grid((30, 40)), [block(5, 7), block(6, 8), block(7, 9)])
        self.assertEqual(orders_kept(page, 100), [(0, 1, 2)])
        self.assertEqual(first_exchange(page, 100), (0, 1))
        self.assertIs(keeps(page, (0, 1, 2), 100), True)
        self.assertIs(keeps(page, (1, 0, 2), 100), False)
        alike = Page(Grid((30,), more_rows=(9,)), [block(5, 7), block(5, 7)])
        # Alike items change places: each one is elsewhere.
        self.assertEqual(orders_kept(alike, 100), [(0, 1)])
        self.assertEqual(first_exchange(alike, 100), (0, 1))

    def test_the_numbers_order(self):
        page = Page(Grid((5,), more_rows=(7,)), [Item(Block(5, 7), order=1), Item(Block(5, 7))])
        self.assertEqual((orders_kept(page, 30), first_exchange(page, 30)), ([(0, 1), (1, 0)], None))
        page = Page(Grid((5,)), [Item(Block(5, k), order=order) for k, order in enumerate((2, 1, 1, 0))])
        self.assertEqual(orders_kept(page, 30), [places for places in itertools.permutations(range(4))
                                                 if places.index(1) < places.index(2)])
        # Behind the exchange of the items 0 and 2, item 2 stands ahead of item 1.
        self.assertEqual(first_exchange(page, 30), (0, 2))

    def test_the_least_pair(self):
        members = [at(1, 1), at(2, 1), block(5, 6), at(1, 2), block(7, 8), block(9, 10)]
        page = Page(Grid((20, 30)), members)
        self.assertEqual(first_exchange(page, 100), (0, 4))
        page = Page(Grid((20, 30)), members[2:])
        self.assertEqual(first_exchange(page, 100), (0, 2))
        page = Page(Grid((20, 30)), members[:4] + [at(2, 2), block(9, 10)])
        self.assertEqual(first_exchange(page, 100), (0, 5))
        page = Page(Grid((20, 30)), members[:4])
        self.assertIs(first_exchange(page, 100), None)

    def test_how_many_items(self):
        for many in range(6):
            page = Page(Grid((30, 40)), [at(1, 1)] * many)
            self.assertEqual(orders_kept(page, 100), list(itertools.permutations(range(many))))
            self.assertIs(first_exchange(page, 100), None)
            self.assertTrue(all(places.__class__ is tuple for places in orders_kept(page, 100)))
        self.assertEqual(orders_kept(Page(Grid()), 5), [()])
        for many in (6, 12):
            page = Page(Grid((30, 40)), [at(1, 1)] * many)
            self.check_raises(TooMany, {"most": 5}, orders_kept, page, 100)
            self.assertIs(first_exchange(page, 100), None)
            self.assertIs(keeps(page, tuple(range(many))[::-1], 100), True)

    def test_the_size_counts(self):
        # The box has no height in either order; the page has another one.
        some = [at(1, ("a", None), Block(0, 0), height=0), Item(Block(0, 0), height=0, column=(1, None), row=(("span", 1), None))]
        page = Page(Grid((5,), (("names", ("a",)), 0), more_rows=(0, 9), align="start"), some)
        self.assertEqual(looks(page, 5, None)[0], (5, 0))
        for places in ((0, 1), (1, 0)):
            self.assertIs(keeps(page, places, 5), literal_keeps(page, places, 5, None))

    def test_boxes_within_count(self):
        # Both items have one box in either order, but the words of the page in one of them stand elsewhere.
        inner = Page(Grid((share(1),), (share(1),), justify="end"), [Item(Block(1, 2), height=2, width=1)])
        one = at(1, 1, inner, align="baseline", height=20)
        page = Page(Grid((30,)), [one, at(1, 1, Block(5, 9), align="baseline")])
        for places in ((0, 1), (1, 0)):
            self.assertIs(keeps(page, places, 30), literal_keeps(page, places, 30, None))

    def test_baselines_of_a_page_within(self):
        # Of the two items that stand by their baselines in the first row, the first one tells the first baseline.
        inner = Page(Grid((20, 20), (30,)), [
            at(1, 1, Words((5,), 0, 10, 4), align="baseline", height=10),
            at(2, 1, Words((5,), 0, 10, 4), align="baseline", height=10)])
        page = Page(Grid(items_align="baseline"), [at(1, 1, inner), at(2, 1, Words((5,), 0, 40, 35))])
        self.assertEqual(orders_kept(inner, 40), [(0, 1), (1, 0)])
        self.assertEqual(orders_kept(page, 100), [(0, 1), (1, 0)])

    def test_a_height(self):
        page = Page(Grid((30,), (("fill", (10,)),), flow="column"), [block(5, 5), block(5, 5)])
        self.assertEqual(orders_kept(page, 100, 20), [(0, 1)])
        self.assertEqual(keeps(height=20, width=100, places=[1, 0], page=page), False)
        self.assertEqual(first_exchange(height=20, width=100, page=page), (0, 1))
        self.assertEqual(orders_kept(height=20, width=100, page=page), [(0, 1)])

    def test_against_layouts(self):
        rng = random.Random(69)
        kept, tried = 0, 0
        while tried < 120:
            page = random_page(rng, rng.choice((0, 1)))
            many = len(page.members)
            width, height = rng.choice((30, 100)), rng.choice((None, 60))
            orders = list(itertools.permutations(range(many)))
            if many < 2 or any(raised(layout, reordered(page, places), width, height) for places in orders):
                continue
            due = [places for places in orders if literal_keeps(page, places, width, height)]
            self.assertEqual(orders_kept(page, width, height), due)
            self.assertEqual([places for places in orders if keeps(page, places, width, height)], due)
            pairs = []
            for one, other in itertools.combinations(range(many), 2):
                places = list(range(many))
                places[one], places[other] = other, one
                if tuple(places) not in due:
                    pairs.append((one, other))
            self.assertEqual(first_exchange(page, width, height), pairs[0] if pairs else None)
            kept += 1 < len(due) < len(orders)
            tried += 1
        self.assertGreater(kept, 5)

    def test_facts(self):
        rng = random.Random(70)
        told = ((1, None), (2, None), (1, 3), (-1, None), (2, 4), (("a", -1), None))
        for _ in range(150):
            page = random_page(rng, rng.choice((0, 1)))
            members = [Item(item.content, order=rng.choice((0, 0, 1, -1)), column=rng.choice(told), row=rng.choice(told),
                            margins=item.margins, height=item.height, justify=item.justify, align=item.align)
                       for item in page.members]
            everywhere = Page(page.grid, members)
            if raised(layout, everywhere, 100) is None:
                self.assertEqual(len(orders_kept(everywhere, 100)), len(list(itertools.permutations(members))))
            if raised(layout, page, 100) is None and len(page.members) > 1:
                many = len(page.members)
                turns = sorted(range(many), key=lambda index: page.members[index].order)
                for places in itertools.permutations(range(many)):
                    taken = sorted(places, key=lambda index: page.members[index].order)
                    if taken == turns:
                        self.assertIs(keeps(page, places, 100), True)

    def test_what_is_returned_is_new(self):
        page = Page(Grid(), [at(1, 1)])
        orders_kept(page, 50).append(None)
        self.assertEqual(orders_kept(page, 50), [(0,)])


class ErrorsTest(Case):

    def test_the_page_the_width_and_the_height(self):
        plain = Page(Grid())
        calls = (orders_kept, first_exchange, lambda page, width, height=None: keeps(page, (), width, height))
        for call in calls:
            self.check_place(NoPage, {"part": "page", "index": -1}, lambda value: call(value, 5), ("page",))
            self.check_place(NoNumber, {"part": "width"}, lambda value: call(plain, value), ("zero", "one", "huge", "half"))
            self.check_place(NoNumber, {"part": "height"}, lambda value: call(plain, 5, value),
                             ("none", "zero", "one", "huge", "half"))
            self.check_raises(NoPage, {"part": "page", "index": -1}, call, None, None, -1)
            self.check_raises(NoNumber, {"part": "width"}, call, plain, None, -1)

    def test_their_order(self):
        filled = Page(Grid((("fill", (10,)),)), [block(1, 1)] * 6)
        self.check_raises(NoPage, {"part": "page", "index": -1}, keeps, None, None, None, -1)
        self.check_raises(NoNumber, {"part": "width"}, keeps, filled, None, None, -1)
        self.check_raises(NoNumber, {"part": "height"}, keeps, filled, None, 5000, -1)
        self.check_raises(NoOrder, {"index": -1}, keeps, filled, None, 5000)
        self.check_raises(NoOrder, {"index": 1}, keeps, filled, (0, 0, 1, 2, 3, 4), 5000)
        self.check_raises(ManyLanes, {"axis": "column"}, keeps, filled, (5, 4, 3, 2, 1, 0), 5000)
        self.check_raises(NoNumber, {"part": "width"}, orders_kept, filled, None, -1)
        self.check_raises(NoNumber, {"part": "height"}, orders_kept, filled, 5000, -1)
        self.check_raises(TooMany, {"most": 5}, orders_kept, filled, 5000)
        self.check_raises(ManyLanes, {"axis": "column"}, orders_kept, Page(filled.grid, filled.members[:5]), 5000)
        self.check_raises(NoNumber, {"part": "height"}, first_exchange, filled, 5000, -1)
        self.check_raises(ManyLanes, {"axis": "column"}, first_exchange, filled, 5000)
        for call in (orders_kept, first_exchange):
            inner = Page(Grid(), [Item(Page(filled.grid))])
            self.check_raises(ManyLanes, {"axis": "column"}, call, inner, 5000)
            self.assertIsNotNone([call(inner, 50)])


if __name__ == "__main__":
    unittest.main()
