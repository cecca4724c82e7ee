"""Promises [82] and [83]: what a change of one length moves."""

import random
import unittest

from gridlanes.contents import Block, Words
from gridlanes.errors import ManyLanes, NoNumber, NoPath, NoRange, NoWish, TooMany
from gridlanes.moves import least_fall, least_move, moved
from gridlanes.pages import Grid, Item, Page
from gridlanes.paths import length_at
from gridlanes.pieces import box_paths, pieces
from tests.literal_lanes import fraction, number
from tests.random_pages import random_page
from tests.short import HALF, LENGTHS, NUMBERS, WORDS, at, share
from tests.support import Case, all_values, raised
from tests.test_wishes import values_around
from tests.varied import LITTLE, length_paths, look



def three_blocks():
    """The page of the example: the second block is wider than the first one, above it."""
    some = [at((1, 2), (1, 2), Block(10, 4)), at((1, 2), (2, 3), Block(25, 4)), Item(Block(3, 4), column=(2, 3))]
    return Page(Grid(("auto", "auto"), justify="start"), some)


def width_of(index):
    return ("members", index, "content", "width")


class MovedTest(Case):

    def check(self, page, path, value, width, due, height=None):
        self.check_numbers(moved(page, path, value, width, height), due)

    def test_boxes(self):
        page = three_blocks()
        self.check(page, width_of(0), 25, 500, [])
        self.check(page, width_of(0), 10, 500, [])
        self.check(page, width_of(0), 26, 500, [0, 1, 2])
        self.check(page, width_of(1), 26, 500, [0, 1, 2])
        self.check(page, width_of(2), 4, 500, [2])
        self.check(page, ("members", 0, "content", "height"), 5, 500, [0, 1, 2])
        self.check(page, ("members", 1, "content", "height"), 5, 500, [1])
        self.check(page, ("members", 0, "margins", 3), HALF, 500, [0])
        self.check(page, ("grid", "row_gap"), 5, 500, [1])
        self.check(page, ("grid", "column_gap"), 5, 500, [2])
        self.check(page, ("members", 1, "margins", 0), -1, 500, [1])
        self.check(page, width_of(2), 4, 500, [2], 80)
        self.check(Page(Grid((5,))), ("grid", "columns", 0), 6, 500, [])

    def test_each_part_of_a_box_counts(self):
        page = Page(Grid((30,), (20,)), [at(1, 1, Block(5, 5), width=10, height=10, justify="start", align="start")])
        self.check(page, ("members", 0, "margins", 3), 1, 50, [0])
        self.check(page, ("members", 0, "margins", 0), 1, 50, [0])
        self.check(page, ("members", 0, "width"), 11, 50, [0])
        self.check(page, ("members", 0, "height"), 11, 50, [0])
        self.check(page, ("members", 0, "margins", 1), 1, 50, [])
        self.check(page, ("grid", "rows", 0), 21, 50, [])

    def test_boxes_within(self):
        inner = Page(Grid((5, share(1))), [Item(Block(1, 2)), Item(Block(3, 4))])
        page = Page(Grid((20, 30)), [Item(inner), Item(Block(1, 2))])
        self.check(page, ("members", 0, "content", "grid", "columns", 0), 6, 50, [1, 2])
        self.check(page, ("grid", "columns", 0), 21, 50, [0, 2, 3])
        self.check(page, ("members", 0, "margins", 3), 1, 50, [0, 1, 2])

    def test_against_layouts(self):
        rng = random.Random(82)
        for _ in range(150):
            page = random_page(rng, rng.choice((0, 1, 2)))
            paths = length_paths(page)
            if paths:
                path, value, height = rng.choice(paths), rng.choice((0, 5, (21, 2), 30)), rng.choice((None, 60))
                if raised(moved, page, path, value, 100, height) is None:
                    before, behind = [look(page, path, worth, 100, height)[1:] for worth in (length_at(page, path), value)]
                    self.check(page, path, value, 100, [k for k, box in enumerate(before) if box != behind[k]], height)

    def test_errors(self):
        page = three_blocks()
        path = width_of(0)
        self.check_place(NoPath, {"path": path}, lambda value: moved(page, path, value, 5), LENGTHS)
        margin = ("members", 0, "margins", 0)
        self.check_place(NoPath, {"path": margin}, lambda value: moved(page, margin, value, 5), NUMBERS)
        for value in all_values().values():
            self.check_raises(NoPath, {"path": value}, moved, page, value, 5, 5)
        self.check_place(NoNumber, {"part": "width"}, lambda value: moved(page, path, 5, value), LENGTHS)
        self.check_place(NoNumber, {"part": "height"}, lambda value: moved(page, path, 5, 5, value), ("none", *LENGTHS))
        self.check_raises(NoPath, {"path": path}, moved, page, path, -1, -1, -1)
        self.check_raises(NoNumber, {"part": "width"}, moved, page, path, 1, -1, -1)
        self.check_raises(NoNumber, {"part": "height"}, moved, page, path, 1, 5, -1)
        filled = Page(Grid((("fill", (10,)),)), [Item(Block(1, 2))])
        lane = ("grid", "columns", 0, 1, 0)
        self.check_raises(ManyLanes, {"axis": "column"}, moved, filled, lane, 20, 700)
        self.check_raises(ManyLanes, {"axis": "column"}, moved, filled, lane, 1, 100)
        self.check_raises(NoNumber, {"part": "height"}, moved, filled, lane, 1, 100, -1)
        self.assertEqual(moved(filled, lane, 20, 100), [0])
        self.assertEqual(moved(height=None, width=100, value=20, path=lane, page=filled), [0])


class LeastMoveTest(Case):

    def check(self, page, path, box, due, width=500, **named):
        self.check_numbers(least_move(page, path, box, width=width, **named), due)

    def test_the_example(self):
        for index, due in ((0, (15, False)), (1, (0, False))):
            self.check(three_blocks(), width_of(index), 2, due)

    def test_limits(self):
        page = three_blocks()
        for limit, due in ((None, (15, False)), (26, (15, False)), ((51, 2), (15, False)), (25, None), (20, None), (10, None)):
            self.check(page, width_of(0), 2, due, limit=limit)
        self.check(page, width_of(1), 2, None, limit=25)
        self.check(page, width_of(1), 2, (0, False), limit=(251, 10))

    def test_never(self):
        page = three_blocks()
        for limit in (None, 1000):
            self.check(page, ("members", 1, "content", "height"), 2, None, limit=limit)
            self.check(page, width_of(2), 0, None, limit=limit)
        self.check(Page(Grid((30,)), [Item(Block(1, 2), width=5)]), ("grid", "columns", 0), 0, None)

    def test_jumps(self):
        page = Page(Grid((100,)), [Item(WORDS), Item(WORDS)])
        # The line is 90 long; from 100 on the last word, or the two last ones, are in further lines.
        self.check(page, ("members", 0, "content", "widths", 0), 1, (10, False))
        self.check(page, ("members", 0, "content", "blank"), 1, (5, False))
        self.check(page, ("members", 0, "content", "line"), 1, (0, False))
        narrow = Page(Grid((84,)), [Item(WORDS), Item(WORDS)])
        # From 90 on the words are in one line, and what is below them is higher.
        self.check(narrow, ("grid", "columns", 0), 1, (0, False))
        fixed = Page(Grid((84, 5)), [Item(WORDS), Item(Block(1, 2), row=(2, None), column=(2, None), width=3, justify="end"),
                                     Item(Block(1, 2), row=(2, None), column=(1, None), width=3, justify="start")])
        self.check(fixed, ("grid", "columns", 0), 2, (6, True))
        self.check(fixed, ("grid", "columns", 0), 2, (6, True), limit=90)
        self.check(fixed, ("grid", "columns", 0), 2, None, limit=(899, 10))
        self.check(fixed, ("grid", "columns", 0), 1, (0, False))

    def test_margins(self):
        page = Page(Grid((30,), (20,)), [at(1, 1, Block(5, 5), margins=(0, 0, -7, -9))])
        self.check(page, ("members", 0, "margins", 3), 0, (0, False))
        self.check(page, ("members", 0, "margins", 3), 0, (0, False), limit=-8)
        self.check(page, ("members", 0, "margins", 3), 0, None, limit=-9)
        start = Page(Grid((30,), (20,)), [at(1, 1, Block(5, 5), margins=(0, -9, 0, 0), justify="start")])
        self.check(start, ("members", 0, "margins", 1), 0, None)
        narrow = Page(Grid((30,), (20,)), [at(1, 1, Words((10, 30), 0, 5, 5), margins=(0, -9, 0, 0), justify="start")])
        # 39 are there for the words, that want 40, and have 30 in the end.
        self.check(narrow, ("members", 0, "margins", 1), 0, (0, False))
        self.check(narrow, ("members", 0, "margins", 1), 0, (0, False), limit=0)

    def test_boxes_within(self):
        inner = Page(Grid((5, ("between", 8, share(1)))), [Item(Block(1, 2)), Item(Block(3, 4))])
        page = Page(Grid((20, 30)), [Item(inner), Item(Block(1, 2))])
        path = ("members", 0, "content", "grid", "columns", 0)
        self.check(page, path, 0, None)
        self.check(page, path, 1, (0, False))
        self.check(page, path, 2, (0, False))
        self.check(page, path, 3, None)
        self.check(page, ("members", 0, "content", "grid", "columns", 1, 1), 2, (7, False))

    def test_against_layouts(self):
        rng = random.Random(83)
        tried, changes = 0, []
        while tried < 500:
            page = random_page(rng, rng.choice((0, 1)))
            paths, many = length_paths(page), len(box_paths(page))
            if not paths or not many:
                continue
            path, box = rng.choice(paths), rng.randrange(many)
            length = fraction(length_at(page, path))
            limits = (length, length + rng.choice((7, 50)), length - rng.choice((0, abs(length), 3)))
            for call, limit in ((least_move, limits[0]), (least_move, limits[1]), (least_fall, limits[2])):
                if limit < 0 and "margins" not in path:
                    continue
                named = {"width": rng.choice((30, 100)), "height": rng.choice((None, 60)), "limit": number(limit)}
                error = raised(call, page, path, box, **named, most=10 ** 6)
                if error is not None:
                    self.assertIs(error[0], ManyLanes)
                    continue
                found = call(page, path, box, **named, most=10 ** 6)
                self.check_change(page, path, box, found, length, limit, named, call is least_move)
                changes.append(found)
                tried += 1
        self.assertGreater(len([found for found in changes if found is not None and found[0] != 0]), 10)

    def check_change(self, page, path, box, found, length, limit, named, grows):
        width, height = named["width"], named["height"]
        low, high = min(length, limit), max(length, limit)
        at_first = look(page, path, number(length), width, height)[box + 1]
        ends = [piece[0] for piece in pieces(page, path, number(low), number(high), width=width, height=height, most=10 ** 6)]
        amount = None if found is None else fraction(found[0])
        if amount is not None:
            self.assertTrue(amount <= high - low)
            self.assertIs(found[1].__class__, bool)
            ends.append(length + amount if grows else length - amount)
        for value in values_around([low, high, *ends], low, high):
            is_other = look(page, path, number(value), width, height)[box + 1] != at_first
            far = abs(value - length)
            if amount is None or far < amount:
                self.assertFalse(is_other, (found, value))
            elif far == amount:
                self.assertIs(is_other, found[1])
            elif far == amount + LITTLE:
                self.assertTrue(is_other or found[1])


class LeastFallTest(Case):

    def check(self, page, path, box, due, width=500, **named):
        self.check_numbers(least_fall(page, path, box, width=width, **named), due)

    def test_down_to_limits(self):
        page = three_blocks()
        self.check(page, width_of(1), 2, (0, False))
        self.check(page, width_of(0), 2, None)
        self.check(page, width_of(1), 2, None, limit=25)
        self.check(page, width_of(1), 2, (0, False), limit=24)
        wide = Page(page.grid, [at((1, 2), (1, 2), Block(40, 4)), *page.members[1:]])
        self.check(wide, width_of(0), 2, (0, False))
        tall = Page(page.grid, [page.members[0], *page.members[1:2], Item(Block(3, 2), column=(2, 3), align="end")])
        self.check(tall, ("members", 0, "content", "height"), 2, (0, False))
        self.check(tall, ("members", 0, "content", "height"), 2, None, limit=4)
        self.check(tall, ("members", 1, "content", "height"), 2, None)

    def test_jumps(self):
        fixed = Page(Grid((84, 5)), [Item(WORDS), Item(Block(1, 2), row=(2, None), column=(2, None), width=3, justify="end"),
                                     Item(Block(1, 2), row=(2, None), column=(1, None), width=3, justify="start")])
        # At 65 there are two lines still, below it three.
        self.check(fixed, ("grid", "columns", 0), 2, (19, False))
        self.check(fixed, ("grid", "columns", 0), 2, (19, False), limit=(649, 10))
        self.check(fixed, ("grid", "columns", 0), 2, None, limit=65)
        # At 45 the last word comes into the line again.
        words = Page(Grid((100,)), [Item(Words((20, 70, 10), 5, 12, 9)), Item(Block(1, 2))])
        self.check(words, ("members", 0, "content", "widths", 1), 1, (10, True))
        self.check(words, ("members", 0, "content", "widths", 1), 1, None, limit=(601, 10))
        self.check(words, ("members", 0, "content", "widths", 1), 1, (10, True), limit=60)

    def test_margins(self):
        page = Page(Grid((30,), (20,)), [at(1, 1, Block(5, 5), margins=(2, 0, -7, -9))])
        path = ("members", 0, "margins", 3)
        self.check(page, path, 0, (0, False), limit=-10)
        self.check(page, path, 0, None, limit=-9)
        self.check(page, ("members", 0, "margins", 0), 0, (0, False))
        self.check(page, ("members", 0, "margins", 0), 0, (0, False), limit=-5)
        self.check(page, ("members", 0, "margins", 1), 0, None)
        for limit in (0, -8):
            self.check_raises(NoRange, {"part": "limit"}, least_fall, page, path, 0, width=5, limit=limit)
        self.check_raises(NoRange, {"part": "limit"}, least_fall, page, path, 0, width=5)


class ErrorsTest(Case):

    def test_paths(self):
        for call in (least_move, least_fall):
            for value in (*all_values().values(), ("grid", "columns", 0), ("members", 0)):
                self.check_raises(NoPath, {"path": value}, call, three_blocks(), value, None, width=-1, limit=-1, most=0)

    def test_boxes(self):
        page = three_blocks()
        path = width_of(0)
        for call in (least_move, least_fall):
            for label, value in all_values().items():
                due = None if label in ("zero", "one") else (NoWish, {"wish": value})
                self.assertEqual(raised(call, page, path, value, width=5), due, label)
            for box in (3, -1, True, "wide"):
                self.check_raises(NoWish, {"wish": box}, call, page, path, box, width=-1, limit=-1, most=0)
            self.check_raises(NoWish, {"wish": 0}, call, Page(Grid((5,))), ("grid", "columns", 0), 0, width=5)

    def test_limits(self):
        page = three_blocks()
        path, margin = width_of(0), ("members", 0, "margins", 3)
        self.check_place(NoRange, {"part": "limit"}, lambda value: least_move(page, path, 0, width=5, limit=value),
                         ("none", "huge"))
        self.check_place(NoRange, {"part": "limit"}, lambda value: least_fall(page, path, 0, width=5, limit=value),
                         ("zero", "one", "half"))
        self.check_place(NoRange, {"part": "limit"}, lambda value: least_move(page, margin, 0, width=5, limit=value),
                         ("none", *LENGTHS))
        self.check_place(NoRange, {"part": "limit"}, lambda value: least_fall(page, margin, 0, width=5, limit=value),
                         ("zero", "minus one", "minus half", "minus huge"))
        for call, limit in ((least_move, (19, 2)), (least_move, 0), (least_fall, (21, 2)), (least_fall, 11), (least_fall, None)):
            self.check_raises(NoRange, {"part": "limit"}, call, page, path, 0, width=-1, limit=limit, most=0)
        for call in (least_move, least_fall):
            self.assertIs(call(page, path, 0, width=5, limit=10), None)

    def test_no_limit_with_a_fill(self):
        filled = Page(Grid((("fill", (10,)), 5)), [Item(Block(1, 2))])
        path = ("grid", "columns", 1)
        for page in (filled, Page(Grid((5, 5)), [Item(filled)])):
            self.check_raises(NoRange, {"part": "limit"}, least_move, page, path, 0, width=-1, most=0)
            self.assertIs(least_move(page, path, 0, width=100, limit=20), None)
            self.assertIs(least_fall(page, path, 0, width=100), None)

    def test_errors_of_pieces(self):
        page = three_blocks()
        path = width_of(0)
        for call in (least_move, least_fall):
            self.check_place(NoNumber, {"part": "width"}, lambda value: call(page, path, 0, width=value), LENGTHS)
            self.check_place(NoNumber, {"part": "height"}, lambda value: call(page, path, 0, width=5, height=value),
                             ("none", *LENGTHS))
            self.check_place(NoNumber, {"part": "most"}, lambda value: call(page, path, 0, width=500, limit=10, most=value),
                             ("one", "huge"))
            self.check_raises(NoNumber, {"part": "width"}, call, page, path, 0, width=-1, height=-1, most=0)
            self.check_raises(NoNumber, {"part": "height"}, call, page, path, 0, width=1, height=-1, most=0)
        self.check_raises(TooMany, {"most": 1}, least_move, page, path, 2, width=500, most=1)
        self.assertEqual(least_move(page, path, 2, width=500, most=2), (15, False))
        self.check_raises(TooMany, {"most": 1}, least_fall, Page(page.grid, [at(1, 1, Block(30, 4)), *page.members[1:]]),
                          path, 2, width=500, most=1)
        filled = Page(Grid((("fill", (10,)), 5)), [Item(Block(1, 2))])
        lane = ("grid", "columns", 0, 1, 0)
        self.check_raises(ManyLanes, {"axis": "column"}, least_fall, filled, lane, 0, width=100)
        self.check_raises(ManyLanes, {"axis": "column"}, least_move, filled, lane, 0, width=10000, limit=20, most=1)
        self.assertEqual(least_fall(filled, lane, 0, width=100, limit=3), (0, False))

    def test_by_names(self):
        page = three_blocks()
        self.assertEqual(least_move(most=200, limit=None, height=None, width=500, box=2, path=width_of(0), page=page),
                         (15, False))
        self.assertEqual(least_fall(most=200, limit=0, height=None, width=500, box=2, path=width_of(1), page=page),
                         (0, False))
        self.assertTrue(page == three_blocks())


if __name__ == "__main__":
    unittest.main()
