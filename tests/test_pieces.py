"""Promises [4], [74] and [75]: the layouts of a page for all numbers between two."""

import random
import time
import unittest

from gridlanes.contents import Block, Words
from gridlanes.errors import ManyLanes, NoNumber, NoPath, NoRange, TooMany
from gridlanes.pages import Grid, Item, Page
from gridlanes.pieces import pieces
from tests import literal_pages
from tests.literal_lanes import fraction, number
from tests.random_pages import random_page
from tests.short import HALF, LENGTHS, WORDS, share
from tests.support import Case, all_values, raised
from tests.varied import check_pieces, length_paths, look, with_value



def flat(*numbers):
    """Forms of numbers that stay."""
    return tuple((number, 0) for number in numbers)


class PiecesTest(Case):

    def check(self, page, vary, low, high, due, **named):
        self.check_numbers(pieces(page, vary, low, high, **named), due)

    def check_looks(self, page, vary, low, high, width=None, height=None, many=None):
        found = pieces(page, vary, low, high, width=width, height=height, most=10 ** 6)
        check_pieces(self, found, low, high, lambda value: look(page, vary, value, width, height))
        if many is not None:
            self.assertEqual(len(found), many)
        return found

    def test_the_example(self):
        page = Page(Grid((("between", 20, share(1)), 30)))
        self.check(page, "width", 0, None, [(0, True, None, False, ((0, 1), (0, 0)), ())])

    def test_words_that_need_fewer_lines(self):
        page = Page(Grid(), [Item(WORDS)])
        self.check(page, "width", 0, None, [
            (0, True, 50, True, ((0, 1), (36, 0)), (flat(0, 0, 50, 36),)),
            (50, False, 65, False, ((0, 1), (36, 0)), (((0, 0), (0, 0), (0, 1), (36, 0)),)),
            (65, True, 90, False, ((0, 1), (24, 0)), (((0, 0), (0, 0), (0, 1), (24, 0)),)),
            (90, True, None, False, ((0, 1), (12, 0)), (((0, 0), (0, 0), (0, 1), (12, 0)),)),
        ])

    def test_a_word_that_grows(self):
        # The blank and the other words take 40 of the line.
        page = Page(Grid((100,)), [Item(Words((20, 1, 10), 5, 12, 9))])
        boxes = (flat(0, 0, 100, 12),), (flat(0, 0, 100, 24),), (flat(0, 0, 100, 36),)
        self.check(page, ("members", 0, "content", "widths", 1), 0, None, [
            (0, True, 60, True, flat(100, 12), boxes[0]), (60, False, 85, True, flat(100, 24), boxes[1]),
            (85, False, None, False, flat(100, 36), boxes[2])], width=100)

    def test_a_number_that_no_stretch_tells(self):
        # Below 30 the words of the first column need two lines, above it those of the second one.
        words = Words((10, 20), 0, 12, 9)
        page = Page(Grid((30, share(1))), [Item(words), Item(words)])
        found = self.check_looks(page, ("grid", "columns", 0), 20, 40, 60, many=3)
        self.check_numbers([piece[:5] for piece in found], [
            (20, True, 30, False, flat(60, 24)), (30, True, 30, True, flat(60, 12)), (30, False, 40, True, flat(60, 24))])
        self.check_numbers(found[0][5], (((0, 0), (0, 0), (0, 1), (24, 0)), ((0, 1), (0, 0), (60, -1), (24, 0))))
        self.check_numbers(found[1][5], (flat(0, 0, 30, 12), flat(30, 0, 30, 12)))
        self.assertEqual(found[2][5], found[0][5])
        # At the ends of a range it is a piece by itself, too.
        for low, high, many in ((30, 40, 2), (20, 30, 2), (30, 30, 1), (20, (59, 2), 1), ((61, 2), 40, 1)):
            found = self.check_looks(page, ("grid", "columns", 0), low, high, 60, many=many)
        self.check_numbers(pieces(page, ("grid", "columns", 0), 30, 30, width=60), [
            (30, True, 30, True, flat(60, 12), (flat(0, 0, 30, 12), flat(30, 0, 30, 12)))])

    def test_one_number(self):
        page = Page(Grid((share(1),)), [Item(WORDS)])
        for value in (0, 65, (129, 2), 90):
            found = self.check_looks(page, "width", value, value, many=1)
            self.assertEqual(found[0][:4], (value, True, value, True))

    def test_bends_belong_to_the_stretch_ahead(self):
        page = Page(Grid((("between", 30, share(1)), ("between", 10, share(1)))), [Item(Words((), 0, 0, 0))])
        self.check(page, "width", 0, None, [
            (0, True, 60, True, ((0, 1), (0, 0)), (flat(0, 0, 30, 0),)),
            (60, False, None, False, ((0, 1), (0, 0)), (((0, 0), (0, 0), (0, HALF), (0, 0)),))])
        self.check(page, "width", 60, 61, [
            (60, True, 61, True, ((0, 1), (0, 0)), (((0, 0), (0, 0), (0, HALF), (0, 0)),))])
        self.check(page, "width", 59, 60, [(59, True, 60, True, ((0, 1), (0, 0)), (flat(0, 0, 30, 0),))])

    def test_fills(self):
        page = Page(Grid((("fill", (("between", 40, share(1)),)),), column_gap=5), [Item(Block(1, 2))])
        found = self.check_looks(page, "width", 0, 200, many=5)
        self.assertEqual([piece[:4] for piece in found], [
            (0, True, 40, True), (40, False, 85, False), (85, True, 130, False), (130, True, 175, False),
            (175, True, 200, True)])
        self.assertEqual(found[2][5][0][2], ((-5, 2), HALF))
        page = Page(Grid((), (("fill", (10,)),), flow="column"), [Item(Block(1, 2)) for _ in range(5)])
        found = self.check_looks(page, "height", 0, 60, 100)
        self.assertEqual([piece[0] for piece in found], [0, 20, 30, 40, 50])

    def test_shares_limits_and_parts(self):
        for columns in ((share(1), share(2), 10), (("between", 10, 50), share(1)), (("part", HALF), ("upto", ("part", HALF))),
                        ("auto", "auto"), (("between", "least", "most"), share(HALF)), ("most", "least", "auto"),
                        (("between", ("part", (1, 3)), 20), ("between", 5, share(3))), (("fit", (("part", (1, 4)),)), "auto")):
            for justify in ("start", "stretch", "evenly", "center"):
                if columns[0][0] == "fit":
                    columns = (columns[0], ("between", "auto", 30))
                page = Page(Grid(columns, column_gap=4, justify=justify), [Item(WORDS), Item(Block(30, 5)), Item(WORDS)])
                self.check_looks(page, "width", 0, 300)

    def test_lengths_of_all_kinds(self):
        deep = Page(Grid(("inherited", ()), ("inherited", ()), column_gap=3, row_gap=2), [
            Item(WORDS, margins=(1, 2, 3, 4)), Item(Block(20, 10), align="baseline", height=8)])
        page = Page(
            Grid((20, ("between", 10, share(1)), ("upto", 40)), (("fit", (("between", "auto", 9),)), 5), column_gap=2, row_gap=1,
                 more_rows=(4,)),
            [Item(deep, column=(1, 3), row=(1, 3)), Item(WORDS, width=30, least_height=20, justify="center"),
             Item(Page(Grid((12,)), [Item(WORDS)]), greatest_width=60, greatest_height=50, align="end")])
        paths = length_paths(page)
        self.assertGreater(len(paths), 50)
        for path in paths:
            with self.subTest(path):
                low = -20 if "margins" in path else 3
                self.check_looks(page, path, low, 90, 100, 120)

    def test_pages_deep_within(self):
        deepest = Page(Grid((share(1), ("between", 10, 30))), [Item(WORDS), Item(Block(20, 7), align="end")])
        middle = Page(Grid((), (), row_gap=3, items_align="baseline"), [Item(deepest), Item(WORDS, width=60)])
        page = Page(Grid((share(1), ("upto", 150)), column_gap=10), [Item(WORDS), Item(middle, align="center")])
        found = self.check_looks(page, "width", 0, 400)
        self.assertEqual(len(found[0][5]), 6)
        self.check_looks(page, "height", 0, None, 200)
        self.check_looks(page, ("members", 1, "content", "members", 0, "content", "members", 0, "content", "widths", 1),
                         0, None, 200)
        self.check_looks(page, ("members", 1, "content", "members", 0, "content", "grid", "columns", 1, 2), 0, 100, 200)

    def test_many_pages(self):
        rng = random.Random(75)
        tried = 0
        while tried < 250:
            page = random_page(rng, rng.choice((0, 0, 1, 2)))
            paths = length_paths(page)
            vary = rng.choice(["width", "height", *rng.sample(paths, min(4, len(paths)))])
            low = rng.choice((0, 0, 5, (7, 2), -10 if "margins" in vary else 1))
            high = number(fraction(low) + rng.choice((0, 10, 100, fraction((151, 2)))))
            width, height = rng.choice((0, 30, 100, (201, 2))), rng.choice((None, None, 0, 60, (155, 2)))
            if rng.random() < 0.3 and raised(pieces, page, vary, low, None, width=width, height=height) is None:
                high = None
            if raised(pieces, page, vary, low, high, width=width, height=height) is None:
                self.check_looks(page, vary, low, high, width, height)
                tried += 1

    def test_against_the_points_written_out(self):
        rng = random.Random(76)
        for _ in range(25):
            page = random_page(rng, 1)
            vary = rng.choice(["width", "height", *length_paths(page)[:1]])
            if raised(pieces, page, vary, 0, 80, width=100) is not None:
                continue

            def look_at(value):
                size, boxes = literal_pages.literal_boxes(*with_value(page, vary, value, 100, None))
                return [size, *boxes]
            check_pieces(self, pieces(page, vary, 0, 80, width=100), 0, 80, look_at)

    def test_no_end(self):
        page = Page(Grid((share(1), 20), align="center"), [Item(WORDS), Item(WORDS)])
        for vary, width in (("width", None), ("height", 100), (("grid", "columns", 1), 100),
                            (("members", 0, "margins", 0), 100), (("members", 1, "content", "line"), 100)):
            found = self.check_looks(page, vary, 0, None, width)
            self.assertEqual(found[-1][2:4], (None, False))

    def test_what_is_handed_in_has_no_effect(self):
        page = Page(Grid((share(1),), ("auto",)), [Item(WORDS)])
        due = pieces(page, "width", 0, 100, height=50)
        for label, value in all_values().items():
            self.assertEqual(pieces(page, "width", 0, 100, width=value, height=50), due, label)
        due = pieces(page, "height", 0, 100, width=50)
        for label, value in all_values().items():
            self.assertEqual(pieces(page, "height", 0, 100, width=50, height=value), due, label)
        path = ("members", 0, "content", "line")
        self.assertEqual(pieces(page, path, 0, 9, width=50),
                         pieces(Page(page.grid, [Item(Words((20, 50, 10), 5, 777, 9))]), path, 0, 9, width=50))

    def test_what_is_returned_is_new(self):
        page = Page(Grid((share(1),)), [Item(WORDS)])
        due = pieces(page, "width", 0, 100)
        pieces(page, "width", 0, 100).clear()
        self.assertEqual(pieces(page, "width", 0, 100), due)
        self.assertEqual(pieces(most=200, height=None, width=None, high=100, low=0, vary="width", page=page), due)
        self.assertTrue(page == Page(Grid((share(1),)), [Item(WORDS)]))

    def test_the_time(self):
        words = Words((30, 20, 15, 40, 22, 18, 33, 7, 51), 5, 12, 9)
        grid = Grid((share(1), ("between", 30, share(2)), "auto"), column_gap=10, row_gap=4, items_align="baseline")
        page = Page(grid, [Item(words) for _ in range(6)] + [Item(Page(Grid((share(1), share(1))), [Item(words), Item(words)]))])
        begin = time.process_time()
        self.assertGreater(len(pieces(page, "width", 0, 700)), 10)
        self.assertGreater(len(pieces(page, ("members", 1, "content", "widths", 3), 0, 700, width=400)), 1)
        self.assertGreater(len(pieces(page, ("grid", "column_gap"), 0, 700, width=400)), 4)
        self.assertLess(time.process_time() - begin, 4)


class ErrorsTest(Case):

    def page(self):
        return Page(Grid((share(1), 20), (5,)), [Item(Block(1, 2), margins=(0, 0, 0, -9))])

    def filled(self):
        return Page(Grid((("fill", (10,)),)), [Item(Block(1, 2))])

    def test_what_varies(self):
        page = self.page()
        for label, value in all_values().items():
            self.check_raises(NoPath, {"path": value}, pieces, page, value, 0, 10, width=50)
        for vary in ("Width", "", b"width", ("width",), ("members", 0), ("grid", "columns", 0), ("grid", "columns", 2)):
            self.check_raises(NoPath, {"path": vary}, pieces, page, vary, None, None, width=None, height=-1, most=0)
        for vary in ("width", "height", ("grid", "columns", 1), ("members", 0, "margins", 3)):
            self.assertIsNone(raised(pieces, page, vary, 0, 10, width=50))

    def test_low(self):
        page = self.page()
        for vary in ("width", "height", ("grid", "columns", 1)):
            self.check_place(NoRange, {"part": "low"}, lambda value: pieces(page, vary, value, 10 ** 70, width=5), LENGTHS)
            self.check_raises(NoRange, {"part": "low"}, pieces, page, vary, -1, -2, width=-1, height=-1, most=0)
        self.check_place(NoRange, {"part": "low"}, lambda value: pieces(page, ("members", 0, "margins", 3), value, 10 ** 70,
                                                                        width=5),
                         (*LENGTHS, "minus one", "minus huge", "minus half"))
        self.check_raises(NoRange, {"part": "low"}, pieces, self.filled(), "width", None, None)

    def test_high(self):
        page = self.page()
        for vary in ("width", "height", ("grid", "columns", 1)):
            self.check_place(NoRange, {"part": "high"}, lambda value: pieces(page, vary, 0, value, width=5), ("none", *LENGTHS))
            self.check_raises(NoRange, {"part": "high"}, pieces, page, vary, 5, (9, 2), width=-1, height=-1, most=0)
            self.check_raises(NoRange, {"part": "high"}, pieces, page, vary, HALF, 0, width=-1, height=-1, most=0)
        path = ("members", 0, "margins", 3)
        self.check_place(NoRange, {"part": "high"}, lambda value: pieces(page, path, -10 ** 70, value, width=5),
                         ("none", *LENGTHS, "minus one", "minus huge", "minus half"))
        self.check_raises(NoRange, {"part": "high"}, pieces, page, path, -1, -2, width=5)

    def test_no_end_with_a_fill(self):
        filled = self.filled()
        inner = Page(Grid((), (5, ("fit", (10,)))))
        pages = (filled, Page(Grid(), [Item(filled)]), Page(Grid(), [Item(inner)]),
                 Page(Grid(), [Item(Block(1, 2)), Item(Page(Grid(), [Item(inner)]))]))
        for page in pages:
            for vary in ("width", "height", ("grid", "row_gap")):
                self.check_raises(NoRange, {"part": "high"}, pieces, page, vary, 0, None, width=50)
                self.assertIsNone(raised(pieces, page, vary, 0, 30, width=50))
            self.check_raises(NoRange, {"part": "high"}, pieces, page, "height", 0, None, width=-1, height=-1, most=0)
        inherited = Page(Grid((), (5,)), [Item(Page(Grid(("inherited", ()))))])
        self.assertIsNone(raised(pieces, inherited, "width", 0, None))

    def test_width_and_height(self):
        page = self.page()
        path = ("grid", "columns", 1)
        for vary in (path, "height"):
            self.check_place(NoNumber, {"part": "width"}, lambda value: pieces(page, vary, 0, 10, width=value), LENGTHS)
            self.check_raises(NoNumber, {"part": "width"}, pieces, page, vary, 0, 10)
        for vary in (path, "width"):
            self.check_place(NoNumber, {"part": "height"}, lambda value: pieces(page, vary, 0, 10, width=5, height=value),
                             ("none", *LENGTHS))
        self.check_raises(NoNumber, {"part": "width"}, pieces, page, path, 0, 10, width=-1, height=-1, most=0)
        self.check_raises(NoNumber, {"part": "height"}, pieces, page, path, 0, 10, width=1, height=-1, most=0)

    def test_most(self):
        page = self.page()
        self.check_place(NoNumber, {"part": "most"}, lambda value: pieces(page, "width", 0, 10, most=value), ("one", "huge"))
        self.check_raises(NoNumber, {"part": "most"}, pieces, self.filled(), "width", 0, 1000, most=0)

    def test_too_many(self):
        page = Page(Grid(), [Item(WORDS)])
        self.assertEqual(len(pieces(page, "width", 0, None, most=4)), 4)
        for most in (1, 2, 3):
            self.check_raises(TooMany, {"most": most}, pieces, page, "width", 0, None, most=most)
        self.assertEqual(len(pieces(page, "width", 0, 50, most=1)), 1)
        # Of each of twelve items one word more comes into the first line from each of nineteen widths on.
        words = [Words([2 ** word for word in range(20)], blank, 12, 9) for blank in range(12)]
        many = Page(Grid((("between", 0, share(1)),)), [Item(content) for content in words])
        found = pieces(many, "width", 0, None, most=300)
        self.assertGreater(len(found), 200)
        self.check_raises(TooMany, {"most": 200}, pieces, many, "width", 0, None)
        self.check_raises(TooMany, {"most": len(found) - 1}, pieces, many, "width", 0, None, most=len(found) - 1)
        self.assertEqual(pieces(many, "width", 0, None, most=len(found)), found)

    def test_many_lanes(self):
        filled = self.filled()
        self.assertIsNotNone(pieces(filled, "width", 0, (6099, 10)))
        for page in (filled, Page(Grid(), [Item(filled)])):
            self.check_raises(ManyLanes, {"axis": "column"}, pieces, page, "width", 0, 610)
            self.check_raises(ManyLanes, {"axis": "column"}, pieces, page, "width", 610, 610)
            # It is stated ahead of too many pieces.
            self.check_raises(ManyLanes, {"axis": "column"}, pieces, page, "width", 0, 610, most=1)
        both = Page(Grid((("fill", (10,)),), (("fill", (10,)),)))
        self.check_raises(ManyLanes, {"axis": "row"}, pieces, both, "height", 0, 900, width=50)
        self.check_raises(ManyLanes, {"axis": "column"}, pieces, both, "height", 0, 900, width=900)

    def test_many_lanes_just_above_a_number(self):
        # A size of 0 repeats once; just above there are more lanes than may be.
        path = ("grid", "columns", 0, 1, 0)
        self.assertEqual(len(pieces(self.filled(), path, 0, 0, width=50)), 1)
        for high in ((1, 1000), 10):
            self.check_raises(ManyLanes, {"axis": "column"}, pieces, self.filled(), path, 0, high, width=50)
        low = (50, 61)
        self.check_raises(ManyLanes, {"axis": "column"}, pieces, self.filled(), path, low, 10, width=50)
        self.assertIsNotNone(pieces(self.filled(), path, (51, 61), 10, width=50))


if __name__ == "__main__":
    unittest.main()
