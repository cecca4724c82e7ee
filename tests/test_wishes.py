"""Promises [4], [77], [78], [79] and [80]: wishes, pages that are alike, boxes that shrink, the last turn."""

import random
import unittest

from gridlanes.contents import Block, Words
from gridlanes.errors import ManyLanes, NoNumber, NoPath, NoRange, NoWish, OtherBoxes, TooMany
from gridlanes.pages import Grid, Item, Page
from gridlanes.paths import length_at, with_length
from gridlanes.pieces import box_paths, pieces
from gridlanes.wishes import first_fall, first_unlike, holds, last_turn, shrinks
from tests.literal_lanes import fraction, number
from tests.random_pages import random_page
from tests.short import LENGTHS, WORDS, at, share
from tests.support import Case, all_values, raised
from tests.varied import LITTLE, length_paths, look

INSIDE = ("inside",)
FILL = Page(Grid((("fill", (("between", 40, ("share", 1)),)),)), [Item(Words((), 0, 0, 0))])


def nested(wish, deep):
    for _ in range(deep):
        wish = ("not", wish)
    return wish


def is_met(wish, size, boxes):
    """Whether a wish holds for a size and boxes, told with Fractions."""
    word, *rest = wish
    if word == "inside":
        return all(x >= 0 and y >= 0 and x + w <= size[0] and y + h <= size[1] for x, y, w, h in boxes)
    if word == "apart":
        (x, y, w, h), (other_x, other_y, other_w, other_h) = boxes[rest[0]], boxes[rest[1]]
        return x + w <= other_x or other_x + other_w <= x or y + h <= other_y or other_y + other_h <= y
    if word in ("wide", "tall"):
        return boxes[rest[0]][2 if word == "wide" else 3] >= fraction(rest[1])
    if word == "not":
        return not is_met(rest[0], size, boxes)
    told = [is_met(inner, size, boxes) for inner in rest[0]]
    return all(told) if word == "all" else any(told)


def met_at(wish, page, vary, value, width, height):
    size, *boxes = [[fraction(part) for part in row] for row in look(page, vary, value, width, height)]
    return is_met(wish, size, boxes)


def values_around(ends, low, high):
    """Numbers from low to high: the ends, numbers a little beside them and between them."""
    ends = sorted({fraction(end) for end in ends if end is not None})
    values = {value for end in ends for value in (end, end - LITTLE, end + LITTLE)}
    values.update((one + other) / 2 for one, other in zip(ends, ends[1:]))
    values.add(ends[-1] + 1000)
    return [value for value in sorted(values) if value >= fraction(low) and (high is None or value <= fraction(high))]


def is_in(value, stretch):
    start, is_with_start, end, is_with_end = stretch
    if value < fraction(start) or (value == fraction(start) and not is_with_start):
        return False
    return end is None or value < fraction(end) or (value == fraction(end) and is_with_end)


class HoldsTest(Case):

    def check(self, page, vary, low, high, wish, due, **named):
        self.check_numbers(holds(page, vary, low, high, wish, **named), due)

    def check_looks(self, page, vary, low, high, wish, width=None, height=None):
        found = holds(page, vary, low, high, wish, width=width, height=height, most=10 ** 6)
        ends = [end for stretch in found for end in (stretch[0], stretch[2])]
        ends += [piece[0] for piece in pieces(page, vary, low, high, width=width, height=height, most=10 ** 6)]
        for value in values_around([low, high, *ends], low, high):
            due = met_at(wish, page, vary, number(value), width, height)
            self.assertEqual(any(is_in(value, stretch) for stretch in found), due, (wish, value))
        for stretch in found:
            if stretch[0] == stretch[2]:
                self.assertTrue(stretch[1] and stretch[3])
            if stretch[2] is None:
                self.assertIs(stretch[3], False)
        for ahead, behind in zip(found, found[1:]):
            self.assertLessEqual(fraction(ahead[2]), fraction(behind[0]))
            self.assertFalse(ahead[2] == behind[0] and (ahead[3] or behind[1]))
        return found

    def test_the_example(self):
        self.check(FILL, "width", 0, 200, ("wide", 0, 60), [(60, True, 80, False)])
        self.check(FILL, "width", 0, 200, ("not", ("wide", 0, 60)), [(0, True, 60, False), (80, True, 200, True)])

    def test_wide(self):
        page = Page(Grid((("between", 30, share(1)), ("between", 10, share(1)))), [Item(WORDS), Item(Block(1, 2))])
        self.check(page, "width", 0, None, ("wide", 0, 30), [(0, True, None, False)])
        self.check(page, "width", 0, None, ("wide", 0, 31), [(62, True, None, False)])
        self.check(page, "width", 0, None, ("wide", 0, (61, 2)), [(61, True, None, False)])
        self.check(page, "width", 0, 61, ("wide", 0, 31), [])
        self.check(page, "width", 0, 62, ("wide", 0, 31), [(62, True, 62, True)])
        self.check(page, "width", 10, 100, ("wide", 1, 0), [(10, True, 100, True)])
        self.check(page, "width", 10, 100, ("not", ("wide", 1, 20)), [(10, True, 50, False)])
        self.check(page, "width", 70, 70, ("wide", 1, 35), [(70, True, 70, True)])
        self.check(page, "width", 70, 70, ("wide", 1, 36), [])

    def test_tall(self):
        page = Page(Grid(), [Item(WORDS)])
        self.check(page, "width", 0, None, ("tall", 0, 24), [(0, True, 90, False)])
        self.check(page, "width", 0, None, ("not", ("tall", 0, 24)), [(90, True, None, False)])
        self.check(page, "width", 0, None, ("all", (("tall", 0, 24), ("not", ("tall", 0, 25)))), [(65, True, 90, False)])
        self.check(page, "width", 0, None, ("any", (("tall", 0, 25), ("not", ("tall", 0, 13)))),
                   [(0, True, 65, False), (90, True, None, False)])

    def test_inside(self):
        page = Page(Grid((30, 40), (20,)), [at(1, 1), at(2, 1)])
        self.check(page, "width", 0, None, INSIDE, [(70, True, None, False)])
        self.check(page, "height", 0, None, INSIDE, [(20, True, None, False)], width=70)
        self.check(page, "height", 0, None, INSIDE, [], width=69)
        for way, due in (("end", [(70, True, None, False)]), ("center", [(70, True, None, False)])):
            grid = Grid((30, 40), (20,), justify=way, align=way)
            self.check(Page(grid, page.members), "width", 0, None, INSIDE, due)
            self.check(Page(grid, page.members), "height", 0, None, INSIDE, [(20, True, None, False)], width=80)
        self.check(Page(Grid()), "width", 0, None, INSIDE, [(0, True, None, False)])
        moved = Page(Grid((30,), (20,)), [Item(Block(1, 2), margins=(0, 0, 0, 0))])
        self.check(moved, ("members", 0, "margins", 3), -20, 50, INSIDE, [(0, True, 30, True)], width=30)
        self.check(moved, ("members", 0, "margins", 0), -20, 50, INSIDE, [(0, True, 20, True)], width=30)
        deep = Page(Grid((30,), (20,)), [Item(Page(Grid((50,)), [Item(Block(1, 2))]))])
        self.check(deep, "width", 0, None, INSIDE, [(50, True, None, False)])

    def test_apart(self):
        page = Page(Grid((30, 40), (20, 20)), [
            at(1, 1), at(2, 1, margins=(0, 0, 0, 0)), at(1, 2), at((1, 3), (1, 3), Page(Grid((5,)), [Item(Block(1, 2))]))])
        path = ("members", 1, "margins", 3)
        self.check(page, path, -10, 10, ("apart", 0, 1), [(0, True, 10, True)], width=100)
        self.check(page, path, -10, 10, ("apart", 1, 0), [(0, True, 10, True)], width=100)
        self.check(page, path, -10, 10, ("apart", 0, 2), [(-10, True, 10, True)], width=100)
        self.check(page, path, -10, 10, ("apart", 0, 3), [], width=100)
        self.check(page, path, -10, 10, ("apart", 1, 4), [(-10, True, 10, True)], width=100)
        self.check(page, path, -30, 10, ("not", ("apart", 1, 4)), [(-30, True, -25, False)], width=100)
        down = ("members", 2, "margins", 0)
        self.check(page, down, -10, 10, ("apart", 0, 2), [(0, True, 10, True)], width=100)
        self.check(page, down, -10, 10, ("not", ("apart", 2, 0)), [(-10, True, 0, False)], width=100)

    def test_boxes_without_a_size(self):
        # A box without a width within another one ends nowhere ahead of it and begins nowhere behind it.
        page = Page(Grid((30,), (20,)), [at(1, 1), at(1, 1, Block(0, 20), width=0, margins=(0, 0, 0, 0))])
        path = ("members", 1, "margins", 3)
        self.check(page, path, 0, 40, ("apart", 0, 1), [(0, True, 0, True), (30, True, 40, True)], width=30)

    def test_points(self):
        words = Words((10, 20), 0, 12, 9)
        page = Page(Grid((30, share(1)), align="start"), [Item(words), Item(words)])
        path = ("grid", "columns", 0)
        self.check(page, path, 20, 40, ("not", ("tall", 0, 13)), [(30, True, 30, True)], width=60)
        self.check(page, path, 20, 40, ("tall", 0, 13), [(20, True, 30, False), (30, False, 40, True)], width=60)
        self.check(page, path, 20, 40, ("all", (("wide", 0, 30), ("wide", 1, 30))), [(30, True, 30, True)], width=60)
        self.check(page, path, 30, 40, ("tall", 0, 13), [(30, False, 40, True)], width=60)
        self.check(page, path, 20, 30, ("tall", 0, 13), [(20, True, 30, False)], width=60)

    def test_stretches_over_several_pieces(self):
        page = Page(Grid(), [Item(WORDS)])
        self.assertEqual(len(pieces(page, "width", 0, None)), 4)
        self.check(page, "width", 0, None, ("tall", 0, 12), [(0, True, None, False)])
        self.check(page, "width", 60, None, ("wide", 0, 60), [(60, True, None, False)])
        self.check(page, "width", 3, 70, ("not", ("wide", 0, 66)), [(3, True, 66, False)])

    def test_no_wishes_in_all_and_any(self):
        self.check(FILL, "width", 0, 9, ("all", ()), [(0, True, 9, True)])
        self.check(FILL, "width", 0, 9, ("any", ()), [])
        self.check(FILL, "width", 0, 9, ("not", ("any", ())), [(0, True, 9, True)])

    def test_many_wishes(self):
        wishes = tuple(("wide", 0, 40 + k) for k in range(20))
        self.check(FILL, "width", 0, 100, ("all", wishes), [(59, True, 80, False)])
        self.check(FILL, "width", 0, 100, ("any", wishes[10:]), [(50, True, 80, False), (100, True, 100, True)])

    def random_wish(self, rng, many, deep):
        kind = rng.randrange(4 if deep == 1 else 8)
        if kind > 5:
            return ("not", self.random_wish(rng, many, deep - 1))
        if kind > 3:
            return (rng.choice(("all", "any")), tuple(self.random_wish(rng, many, deep - 1) for _ in range(rng.randint(0, 3))))
        if kind == 3 and many > 1:
            return ("apart", *rng.sample(range(many), 2))
        if kind and many:
            return (rng.choice(("wide", "tall")), rng.randrange(many), rng.choice((0, 5, 12, 20, (15, 2), 30)))
        return INSIDE

    def test_against_layouts(self):
        rng = random.Random(78)
        tried, met = 0, 0
        while tried < 150:
            page = random_page(rng, rng.choice((0, 1, 1, 2)))
            vary = rng.choice(["width", "height", *rng.sample(length_paths(page), min(3, len(length_paths(page))))])
            low = rng.choice((0, 5, -10 if "margins" in vary else (7, 2)))
            high = rng.choice((low, 60, (151, 2)))
            width, height = rng.choice((30, 100, (201, 2))), rng.choice((None, None, 60))
            if raised(pieces, page, vary, low, high, width=width, height=height) is None:
                wish = self.random_wish(rng, len(box_paths(page)), rng.randint(1, 4))
                met += len(self.check_looks(page, vary, low, high, wish, width, height))
                tried += 1
        self.assertGreater(met, 60)

    def test_how_deep(self):
        for deep in range(1, 5):
            for plain in (INSIDE, ("wide", 0, 5), ("all", ()), ("any", ())):
                self.assertIsNotNone(holds(FILL, "width", 0, 9, nested(plain, deep - 1)))
        for wish in (nested(INSIDE, 4), nested(("all", ()), 4), ("all", (INSIDE, nested(INSIDE, 3))),
                     nested(("any", (("all", (INSIDE,)),)), 2), nested(INSIDE, 900)):
            self.check_raises(NoWish, {"wish": wish}, holds, FILL, "width", 0, 9, wish)
        self.assertIsNotNone(holds(FILL, "width", 0, 9, ("all", (INSIDE, ("any", (("not", INSIDE), ("not", ("all", ()))))))))

    def test_what_is_no_wish(self):
        for label, value in all_values().items():
            self.check_raises(NoWish, {"wish": value}, holds, FILL, "width", 0, 9, value)
            self.check_raises(NoWish, {"wish": (value,)}, holds, FILL, "width", 0, 9, (value,))
            self.check_raises(NoWish, {"wish": ("not", value)}, holds, FILL, "width", 0, 9, ("not", value))
            self.check_raises(NoWish, {"wish": (value, INSIDE)}, holds, FILL, "width", 0, 9, (value, INSIDE))
            for word in ("all", "any"):
                if value != ():
                    self.check_raises(NoWish, {"wish": (word, value)}, holds, FILL, "width", 0, 9, (word, value))
                wish = (word, (INSIDE, value))
                self.check_raises(NoWish, {"wish": wish}, holds, FILL, "width", 0, 9, wish)
            for word in ("wide", "tall"):
                due = None if label in LENGTHS else (NoWish, {"wish": (word, 0, value)})
                self.assertEqual(raised(holds, FILL, "width", 0, 9, (word, 0, value)), due, label)
                due = None if label == "zero" else (NoWish, {"wish": (word, value, 5)})
                self.assertEqual(raised(holds, FILL, "width", 0, 9, (word, value, 5)), due, label)
        for wish in ("inside", ["inside"], (), ("inside", 0), ("inside", ()), ("wide", 0), ("wide", 0, 5, 5), ("wide", 1, 5),
                     ("wide", -1, 5), ("tall", 1, 5), ("apart", 0, 0), ("apart", 0, 1), ("apart", 0), ("not",),
                     ("not", INSIDE, INSIDE), ("all",), ("all", INSIDE), ("all", [INSIDE]), ("all", (INSIDE,), 0),
                     ("any", (INSIDE,) * 21), ("some", (INSIDE,)), ("wide", True, 5), ("wide", 0, True)):
            self.check_raises(NoWish, {"wish": wish}, holds, FILL, "width", 0, 9, wish)
        self.assertIsNotNone(holds(FILL, "width", 0, 9, ("any", (INSIDE,) * 20)))

    def test_boxes_of_wishes(self):
        inner = Page(Grid(), [Item(Block(1, 2)), Item(Block(3, 4))])
        page = Page(Grid(), [Item(inner), Item(Block(5, 6))])
        for word, rest in (("wide", (5,)), ("tall", (5,)), ("apart", (0,)), ("apart", (3,))):
            for box in range(-2, 7):
                wish = (word, box, *rest)
                due = None if 0 <= box < 4 and (word != "apart" or (box,) != rest) else (NoWish, {"wish": wish})
                self.assertEqual(raised(holds, page, "width", 0, 9, wish), due)

    def test_errors_of_pieces_come_first(self):
        call, page = holds, Page(Grid((share(1),)), [Item(WORDS)])
        self.check_raises(NoPath, {"path": "wide"}, call, page, "wide", -1, None, None)
        self.check_raises(NoRange, {"part": "low"}, call, page, "width", -1, -1, None)
        self.check_raises(NoRange, {"part": "high"}, call, page, "width", 5, 4, None)
        self.check_raises(NoRange, {"part": "high"}, call, FILL, "width", 0, None, None)
        self.check_raises(NoNumber, {"part": "width"}, call, page, "height", 0, 1, None)
        self.check_raises(NoNumber, {"part": "height"}, call, page, "width", 0, 1, None, height=-1)
        self.check_raises(NoNumber, {"part": "most"}, call, page, "width", 0, 1, None, most=0)
        self.check_raises(ManyLanes, {"axis": "column"}, call, FILL, "width", 0, 5000, None)
        self.check_raises(TooMany, {"most": 3}, call, page, "width", 0, 200, None, most=3)
        self.assertEqual(len(holds(page, "width", 0, 200, INSIDE, most=4)), 1)

    def test_by_names(self):
        self.assertEqual(holds(wish=("wide", 0, 60), high=200, low=0, vary="width", page=FILL, width=None, height=None,
                               most=9), [(60, True, 80, False)])


class FirstUnlikeTest(Case):

    def check(self, page, other, vary, low, high, due, **named):
        self.check_numbers(first_unlike(page, other, vary, low, high, **named), due)

    def test_alike(self):
        page = Page(Grid((share(1), 30)), [Item(WORDS)])
        self.check(page, page, "width", 0, None, None)
        self.check(page, Page(Grid((share(2), 30), more_rows=(5, 9)), [Item(WORDS, align="stretch")]), "width", 40, 90,
                   (40, True))
        self.check(page, Page(Grid((share(2), 30), more_rows=("auto", 9)), [Item(WORDS, align="stretch")]), "width", 0, None,
                   None)
        self.check(Page(Grid()), Page(Grid((5,))), "height", 0, None, None, width=5)

    def test_where_they_first_differ(self):
        one = Page(Grid((("between", 20, share(1)), 30)), [Item(Block(1, 2))])
        other = Page(Grid((("between", 20, 50), 30)), [Item(Block(1, 2))])
        self.check(one, other, "width", 0, 80, None)
        self.check(one, other, "width", 0, 81, (80, False))
        self.check(one, other, "width", 0, None, (80, False))
        self.check(one, other, "width", 80, 80, None)
        self.check(one, other, "width", 80, 81, (80, False))
        self.check(one, other, "width", 81, 90, (81, True))
        self.check(one, other, "width", 81, 81, (81, True))

    def test_jumps(self):
        # Both have words that need 90 in one line, or 91.
        one, other = [Page(Grid(), [Item(Words((20, 50, last), 5, 12, 9))]) for last in (10, 11)]
        self.check(one, other, "width", 0, 64, None)
        self.check(one, other, "width", 0, 65, (65, True))
        self.check(one, other, "width", 66, 89, None)
        self.check(one, other, "width", 70, None, (90, True))
        self.check(other, one, "width", 70, 200, (90, True))
        self.check(one, other, "width", 91, None, None)
        # Beyond a number, not at it.
        words = [("members", 0, "content", "widths", k) for k in (0, 2)]
        page = Page(Grid((100,)), [Item(Words((20, 50, 10), 5, 12, 9))])
        self.check(page, page, words[0], 5, 30, None, other_vary=words[0], width=100)
        narrow = Page(Grid((100,)), [Item(Words((20, 50, 20), 5, 12, 9))])
        self.check(page, narrow, words[0], 5, 200, (20, False), width=100)
        self.check(page, narrow, words[0], 5, 20, None, width=100)

    def test_what_varies_in_the_other_page(self):
        page = Page(Grid((10, 20)), [Item(Block(1, 2)), Item(Block(3, 4))])
        columns = [("grid", "columns", k) for k in (0, 1)]
        self.check(page, page, columns[0], 0, 50, (0, True), other_vary=columns[1], width=100)
        self.check(page, page, columns[0], 10, 50, (10, True), other_vary=columns[1], width=100)
        swapped = Page(Grid((20, 10)), page.members)
        self.check(page, swapped, columns[1], 20, 50, (20, True), other_vary=columns[0], width=100)
        same = Page(Grid((("upto", 30), 20)), page.members)
        self.check(page, same, columns[1], 0, None, (0, True), width=100)
        self.check(page, Page(Grid((10,), more_columns=(20,)), page.members), columns[1], 5, None, (5, True), width=100,
                   other_vary=("grid", "columns", 0))
        self.check(page, Page(Grid((10,), more_columns=(20,)), [page.members[0], Item(Block(3, 4), column=(2, None), row=(1, None))]),
                   columns[1], 5, None, None, width=100, other_vary=("grid", "more_columns", 0))
        self.check(page, page, columns[0], 0, 50, None, other_vary=None, width=100)
        self.check(page, Page(Grid((share(1), 20)), page.members), "width", 0, 40, (0, True), other_vary="height", width=25,
                   height=6)

    def test_the_size_counts(self):
        one, other = Page(Grid((5,), (8,))), Page(Grid((5,), (9,)))
        self.check(one, other, "width", 0, 10, (0, True))
        self.check(one, other, "height", 0, 10, None, width=5)
        self.check(one, Page(Grid((5,), (8, 0))), "width", 0, 10, None)

    def test_boxes_within_count(self):
        one, other = [Page(Grid((50,), (9,)), [Item(Page(Grid((("between", 5, high),)), [Item(WORDS)]))]) for high in (30, 40)]
        self.check(one, other, ("grid", "columns", 0), 0, None, (30, False), width=5)

    def test_crossing_lines_differ_at_once(self):
        # Both are 20 wide at 40, but in no stretch beside.
        one = Page(Grid((share(1), share(1))), [Item(Words((), 0, 0, 0))])
        other = Page(Grid((20,)), [Item(Words((), 0, 0, 0))])
        self.check(one, other, "width", 40, 40, None)
        self.check(one, other, "width", 40, 50, (40, False))
        self.check(one, other, "width", 30, 50, (30, True))
        # A stretch in which they differ but at its middle.
        self.check(one, other, "width", 39, 41, (39, True))

    def test_against_layouts(self):
        rng = random.Random(79)
        tried, unlike = 0, 0
        while tried < 120:
            page = random_page(rng, rng.choice((0, 1)))
            paths = length_paths(page)
            if not paths:
                continue
            path = rng.choice(paths)
            other = with_length(page, path, rng.choice((0, 5, 9, 20, length_at(page, path))))
            vary = rng.choice(["width", "width", "height", rng.choice(paths)])
            low, high = rng.choice((0, 10)), rng.choice((40, 100))
            if raised(first_unlike, page, other, vary, low, high, width=60, most=10 ** 6) is not None:
                continue
            found = first_unlike(page, other, vary, low, high, width=60, most=10 ** 6)
            ends = [piece[0] for one in (page, other) for piece in pieces(one, vary, low, high, width=60, most=10 ** 6)]
            like = {value: look(page, vary, number(value), 60) == look(other, vary, number(value), 60)
                    for value in values_around([low, high, *ends], low, high)}
            if found is None:
                self.assertTrue(all(like.values()))
            else:
                first, is_at = fraction(found[0]), found[1]
                self.assertTrue(all(same for value, same in like.items() if value < first))
                self.assertIs(like[first], not is_at)
                if not is_at:
                    self.assertFalse(like[first + LITTLE])
                unlike += 1
            tried += 1
        self.assertGreater(unlike, 20)

    def test_errors(self):
        page, deep = Page(Grid((5,)), [Item(WORDS)]), Page(Grid((5,)), [Item(Page(Grid((6,)), [Item(WORDS)]))])
        self.check_raises(OtherBoxes, {"one": 1, "other": 2}, first_unlike, page, deep, "width", 0, 10)
        self.check_raises(OtherBoxes, {"one": 2, "other": 1}, first_unlike, deep, page, "width", 0, 10)
        self.check_raises(OtherBoxes, {"one": 1, "other": 0}, first_unlike, page, Page(Grid()), "width", 0, None)
        path = ("grid", "columns", 0)
        self.check_raises(NoPath, {"path": path}, first_unlike, page, FILL, path, 0, 10, width=5)
        self.check_raises(NoPath, {"path": path}, first_unlike, FILL, page, path, 0, 10, width=5)
        self.check_raises(NoPath, {"path": "x"}, first_unlike, page, deep, "x", None, None, other_vary="y")
        for label, value in all_values().items():
            if value is not None:
                self.check_raises(NoPath, {"path": value}, first_unlike, page, deep, "width", 0, 10, other_vary=value)
        self.check_raises(NoPath, {"path": "y"}, first_unlike, page, deep, "width", 0, 10, other_vary="y")
        margin = ("members", 0, "margins", 0)
        self.check_raises(NoRange, {"part": "low"}, first_unlike, page, deep, "width", -1, 10, other_vary=margin)
        self.check_raises(NoRange, {"part": "low"}, first_unlike, page, deep, margin, -1, 10, other_vary="width", width=5)
        self.check_raises(NoRange, {"part": "high"}, first_unlike, page, deep, margin, -5, -6, other_vary="width", width=5)
        self.check_raises(NoRange, {"part": "high"}, first_unlike, page, FILL, "width", 0, None)
        self.check_raises(NoNumber, {"part": "width"}, first_unlike, page, deep, "height", 0, 10)
        self.check_raises(NoNumber, {"part": "width"}, first_unlike, page, deep, "width", 0, 10, other_vary="height")
        self.check_raises(NoNumber, {"part": "height"}, first_unlike, page, deep, "width", 0, 10, height=-1, most=0)
        self.check_raises(NoNumber, {"part": "most"}, first_unlike, page, deep, "width", 0, 10, most=0)
        wordy = Page(Grid(), [Item(WORDS)])
        self.check_raises(ManyLanes, {"axis": "column"}, first_unlike, wordy, FILL, "width", 0, 5000)
        self.check_raises(TooMany, {"most": 3}, first_unlike, wordy, FILL, "width", 0, 5000, most=3)
        self.check_raises(TooMany, {"most": 3}, first_unlike, Page(Grid()), wordy, "width", 0, 5000, most=3)
        self.check_raises(OtherBoxes, {"one": 0, "other": 1}, first_unlike, Page(Grid()), wordy, "width", 0, 5000)
        self.assertIs(first_unlike(high=9, low=0, vary="width", other=page, page=page), None)


class ShrinksTest(Case):

    def check(self, page, vary, low, high, box, side, due, **named):
        self.check_numbers(shrinks(page, vary, low, high, box, side, **named), due)

    def test_jumps(self):
        self.check(FILL, "width", 0, 200, 0, "wide", (80, "jump"))
        self.check(FILL, "width", 0, 80, 0, "wide", (80, "jump"))
        self.check(FILL, "width", 0, (159, 2), 0, "wide", None)
        self.check(FILL, "width", 80, 119, 0, "wide", None)
        self.check(FILL, "width", 80, 200, 0, "wide", (120, "jump"))
        self.check(FILL, "width", 80, 80, 0, "wide", None)
        page = Page(Grid(), [Item(WORDS)])
        self.check(page, "width", 0, None, 0, "tall", (65, "jump"))
        self.check(page, "width", 65, None, 0, "tall", (90, "jump"))
        self.check(page, "width", 90, None, 0, "tall", None)
        self.check(page, "width", 0, None, 0, "wide", None)

    def test_a_jump_at_once_above_a_number(self):
        # The words of the second item need a line more when the first column is more than 30 wide.
        words = Words((10, 20), 0, 12, 9)
        page = Page(Grid((30, share(1))), [Item(Block(1, 2), align="start"), Item(words)])
        path = ("grid", "columns", 0)
        self.check(page, path, 20, 40, 1, "tall", None, width=60)
        taller = Page(Grid((30, share(1)), (100,)), [Item(Block(1, 2)), Item(words, row=(1, None)), Item(Page(Grid((), (
            share(1), "auto")), [Item(Block(1, 2)), Item(words)]), column=(2, None), row=(1, None))])
        self.check(taller, path, 20, 40, 3, "tall", (30, "jump"), width=60)
        self.check(taller, path, 30, 40, 3, "tall", (30, "jump"), width=60)
        self.check(taller, path, 20, 30, 3, "tall", None, width=60)
        self.check(taller, path, 31, 40, 3, "tall", None, width=60)

    def test_a_point_that_is_higher_or_lower(self):
        words = Words((10, 20), 0, 12, 9)
        page = Page(Grid((30, share(1))), [Item(words), Item(words)])
        path = ("grid", "columns", 0)
        self.check(page, path, 20, 40, 0, "tall", (30, "jump"), width=60)
        self.check(page, path, 30, 40, 0, "tall", None, width=60)
        rest = Page(Grid((30, share(1)), (100,)), [Item(Page(Grid((share(1), share(1)), (share(1), "auto")), [
            Item(Block(1, 2), column=(1, 3))]), column=(1, 3))])
        self.check(rest, path, 20, 40, 0, "tall", None, width=60)

    def test_bends(self):
        page = Page(Grid((20, ("between", 10, share(1)))), [Item(Block(1, 2)), Item(Block(1, 2))])
        path = ("grid", "columns", 0)
        self.check(page, path, 0, 200, 1, "wide", (0, "bend"), width=100)
        self.check(page, path, 50, 200, 1, "wide", (50, "bend"), width=100)
        self.check(page, path, 90, 200, 1, "wide", None, width=100)
        self.check(page, path, 89, 200, 1, "wide", (89, "bend"), width=100)
        self.check(page, path, 0, None, 0, "wide", None, width=100)
        self.check(page, path, 50, 50, 1, "wide", None, width=100)
        later = Page(Grid((("between", 20, 50), share(1)), justify="start"), [Item(Block(1, 2)), Item(Words((), 0, 0, 0))])
        self.check(later, ("grid", "columns", 0, 2), 0, None, 1, "wide", (20, "bend"), width=100)

    def test_a_jump_is_told_ahead_of_a_bend(self):
        def piece(start, is_with_start, end, is_with_end, form):
            return (start, is_with_start, end, is_with_end, ((0, 0), (0, 0)), (((0, 0), (0, 0), form, (0, 0)),))
        ahead = piece(0, True, 5, False, (20, 0))
        for behind, due in (((20, -1), (5, "jump")), ((25, -1), (5, "bend")), ((26, -1), (5, "bend")), ((0, 3), (5, "jump")),
                            ((5, 3), None), ((6, 3), None)):
            self.assertEqual(first_fall([ahead, piece(5, True, None, False, behind)], 0, 2), due)
        point = piece(5, True, 5, True, (30, 0))
        for behind, due in (((29, 0), (5, "jump")), ((30, 0), None), ((35, -1), (5, "bend")), ((34, -1), (5, "jump"))):
            self.assertEqual(first_fall([ahead, point, piece(5, False, None, False, behind)], 0, 2), due)

    def test_sides_and_boxes(self):
        inner = Page(Grid((share(1),), (share(1),)), [Item(WORDS)])
        page = Page(Grid((share(1), 20)), [Item(Block(1, 2)), Item(inner)])
        self.check(page, ("grid", "columns", 1), 20, 60, 0, "wide", (20, "bend"), width=100)
        self.check(page, ("grid", "columns", 1), 20, 60, 1, "wide", None, width=100)
        self.check(page, ("grid", "columns", 1), 20, 70, 2, "tall", (65, "jump"), width=100)
        self.check(page, ("grid", "columns", 1), 20, 64, 2, "tall", None, width=100)

    def test_against_layouts(self):
        rng = random.Random(80)
        tried, kinds = 0, []
        while tried < 250:
            page = random_page(rng, rng.choice((0, 1)))
            boxes = len(box_paths(page))
            vary = rng.choice(["width", "height", rng.choice(length_paths(page) or ["width"])])
            if not boxes or raised(pieces, page, vary, 0, 80, width=60, most=10 ** 6) is not None:
                continue
            box, side = rng.randrange(boxes), rng.choice(("wide", "tall"))
            found = shrinks(page, vary, 0, 80, box, side, width=60, most=10 ** 6)
            ends = [piece[0] for piece in pieces(page, vary, 0, 80, width=60, most=10 ** 6)]
            sizes = [(value, fraction(look(page, vary, number(value), 60)[box + 1][2 if side == "wide" else 3]))
                     for value in values_around([0, 80, *ends], 0, 80)]
            falls = [value for (_, ahead), (value, size) in zip(sizes, sizes[1:]) if size < ahead]
            if found is None:
                self.assertEqual(falls, [])
            else:
                first, sizes = fraction(found[0]), dict(sizes)
                self.assertTrue(falls[0] in (first, first + LITTLE), (found, falls))
                # A fall along a line is as little as the step is.
                ahead = sizes.get(first - LITTLE, sizes[first])
                least = min(sizes[first], sizes.get(first + LITTLE, sizes[first]))
                self.assertEqual(found[1], "jump" if max(ahead, sizes[first]) - least > LITTLE * 10 ** 3 else "bend")
                kinds.append(found[1])
            tried += 1
        self.assertGreater(min(kinds.count("jump"), kinds.count("bend")), 2, kinds)

    def test_errors(self):
        for label, value in all_values().items():
            due = None if label == "zero" else (NoWish, {"wish": ("wide", value)})
            self.assertEqual(raised(shrinks, FILL, "width", 0, 9, value, "wide"), due, label)
            self.check_raises(NoWish, {"wish": (value, 0)}, shrinks, FILL, "width", 0, 9, 0, value)
        for box, side in ((1, "wide"), (-1, "tall"), (0, "Wide"), (0, "width"), (True, "wide")):
            self.check_raises(NoWish, {"wish": (side, box)}, shrinks, FILL, "width", 0, 9, box, side)
        self.assertIs(shrinks(FILL, "width", 0, 9, 0, "tall"), None)
        self.check_raises(NoPath, {"path": "x"}, shrinks, FILL, "x", 0, 9, 9, "x")
        self.check_raises(NoRange, {"part": "high"}, shrinks, FILL, "width", 0, None, 9, "x")
        self.check_raises(NoNumber, {"part": "most"}, shrinks, FILL, "width", 0, 9, 9, "x", most=0)
        self.check_raises(ManyLanes, {"axis": "column"}, shrinks, FILL, "width", 0, 5000, 9, "x")
        self.check_raises(TooMany, {"most": 1}, shrinks, FILL, "width", 0, 500, 9, "x", most=1)
        self.assertEqual(shrinks(side="wide", box=0, high=200, low=0, vary="width", page=FILL), (80, "jump"))


class LastTurnTest(Case):

    def check(self, page, vary, low, due, **named):
        self.check_numbers(last_turn(page, vary, low, **named), due)

    def test_turns(self):
        page = Page(Grid(), [Item(WORDS)])
        self.check(page, "width", 0, (90, True))
        self.check(page, "width", 89, (90, True))
        self.check(page, "width", 90, (90, True))
        self.check(page, "width", 91, (91, True))
        self.check(page, ("members", 0, "content", "widths", 0), 0, (100, False), width=100)
        self.check(page, "height", 0, (12, False), width=100)
        page = Page(Grid((("between", 30, share(1)), ("between", 10, share(1)))), [Item(Words((), 0, 0, 0))])
        self.check(page, "width", 0, (60, False))
        self.check(page, "width", (121, 2), ((121, 2), True))
        self.check(page, "width", 60, (60, True))
        self.check(Page(Grid((share(2), share(3)), column_gap=1), page.members), "width", 0, (1, False))

    def test_as_pieces(self):
        rng = random.Random(81)
        tried = 0
        while tried < 40:
            page = random_page(rng, 1)
            vary = rng.choice(["width", "height", *length_paths(page)])
            if raised(pieces, page, vary, 1, None, width=60, most=10 ** 6) is None:
                found = pieces(page, vary, 1, None, width=60, most=10 ** 6)
                self.check(page, vary, 1, found[-1][:2], width=60, most=10 ** 6)
                tried += 1

    def test_errors(self):
        page = Page(Grid(), [Item(WORDS)])
        self.check_raises(NoPath, {"path": ()}, last_turn, page, (), -1)
        self.check_raises(NoRange, {"part": "low"}, last_turn, FILL, "width", -1)
        self.check_raises(NoRange, {"part": "high"}, last_turn, FILL, "width", 0)
        self.check_raises(NoNumber, {"part": "width"}, last_turn, page, "height", 0)
        self.check_raises(NoNumber, {"part": "height"}, last_turn, page, "width", 0, height=-1)
        self.check_raises(NoNumber, {"part": "most"}, last_turn, page, "width", 0, most=True)
        self.check_raises(TooMany, {"most": 3}, last_turn, page, "width", 0, most=3)
        self.assertEqual(last_turn(low=0, vary="width", page=page, most=4), (90, True))


if __name__ == "__main__":
    unittest.main()
