"""Promises [64], [65] and [66]: the work behind lanes, and states and boxes judged."""

import random
import unittest

from gridlanes.contents import Block, Words
from gridlanes.errors import ManyLanes, NoAxis, NoCrossings, NoNumber, NoPage, NoSizes, NoStates
from gridlanes.judging import check_layout, check_states, work
from gridlanes.lanes import lane_states, sized_lanes
from gridlanes.layouts import layout
from gridlanes.pages import Grid, Item, Page
from tests import literal_pages
from tests.random_pages import random_page
from tests.short import HALF, WORDS, at, share
from tests.support import Case, all_values, raised



def judged(arguments, states):
    sizes, gap, crossings, room, stretched = arguments
    return check_states(sizes, gap, crossings, room, states, stretched=stretched)


def due_states(arguments):
    return lane_states(*arguments[:4], stretched=arguments[4])


def random_pages(seed, many, depth):
    """Pages with a width and a height, those that can be laid out."""
    rng = random.Random(seed)
    for _ in range(many):
        page = random_page(rng, depth)
        width, height = rng.choice((0, 30, 100, (201, 2))), rng.choice((None, None, 0, 60, (155, 2)))
        if raised(layout, page, width, height) is None:
            yield page, width, height


class WorkTest(Case):

    def check(self, page, axis, width, height, due):
        found = work(page, axis, width, height)
        self.check_numbers(found, due)
        self.assertIs(judged(found, due_states(found)), None)

    def test_the_example(self):
        page = Page(Grid(("auto", 40), column_gap=5, justify="start"), [Item(Block(30, 10), column=(1, 2))])
        self.check(page, "column", 100, None, (("auto", 40), 5, [(0, 1, (30, 30, 30, 30, 30))], 100, False))
        self.check(page, "row", 100, None, (("auto",), 0, [(0, 1, (10, 10, 10, 10, 10))], "most", True))

    def test_without_items_or_lanes(self):
        self.check(Page(Grid()), "column", 7, None, ((), 0, [], 7, True))
        self.check(Page(Grid(align="end")), "row", 7, HALF, ((), 0, [], HALF, False))
        self.check(Page(Grid((), (5,))), "row", 7, None, ((5,), 0, [], "most", True))

    def test_crossings_stand_in_the_order_of_items(self):
        page = Page(Grid((50, "auto"), (7, "auto"), column_gap=1), [
            at((1, 3), 2, order=3), at(2, 1, Block(5, 9)), at(1, 2, Block(6, 4), margins=(1, 2, 3, 4))])
        self.check(page, "column", 200, None, (
            (50, "auto"), 1, [(0, 2, (50, 90, 50, 50, 90)), (1, 2, (5, 5, 5, 5, 5)), (0, 1, (12, 12, 6, 12, 12))], 200,
            True))
        self.check(page, "row", 200, 80, (
            (7, "auto"), 0, [(1, 2, (12, 12, 12, 12, 12)), (0, 1, (9, 9, 0, 7, 7)), (1, 2, (8, 8, 8, 8, 8))], 80, True))

    def test_lanes_that_fell_away_are_left_out(self):
        size = ("between", "auto", 40)
        page = Page(Grid((20, ("fit", (30,)), size)), [at(1, 1), at(3, 1, Block(5, 5)), at(-2, 1, Block(6, 6))])
        self.check(page, "column", 150, None, (
            (20, 30, size), 0, [(0, 1, (50, 90, 0, 20, 20)), (1, 2, (5, 5, 0, 5, 5)), (2, 3, (6, 6, 6, 6, 6))], 150,
            True))

    def test_further_lanes(self):
        page = Page(Grid((5,), (), more_columns=(10, share(1))), [at((("a", -2), None), 1, Block(1, 2)), at(3, 1, Block(3, 4))])
        self.assertEqual(work(page, "column", 90)[0], (10, share(1), 5, 10, share(1)))
        self.assertEqual([crossing[:2] for crossing in work(page, "column", 90)[2]], [(0, 1), (4, 5)])

    def test_rows_that_are_sized_twice(self):
        page = Page(Grid((), (("part", HALF), "auto"), row_gap=("part", (1, 10))), [at(1, 1, Block(1, 30)), at(1, 2, Block(1, 20))])
        crossings = [(0, 1, (30, 30, 0, 25, 25)), (1, 2, (20, 20, 20, 20, 20))]
        self.check(page, "row", 9, None, ((("part", HALF), "auto"), 5, crossings, 50, True))
        self.check(page, "row", 9, 50, ((("part", HALF), "auto"), 5, crossings, 50, True))
        page = Page(Grid((), ("auto",)), [Item(Block(1, 30))])
        self.assertEqual(work(page, "row", 9)[3], "most")

    def test_pages_that_hand_lanes_on(self):
        inner = Page(Grid(("inherited", ()), column_gap=10), [at(1, 1, Block(30, 5)), at(2, 1, Block(50, 5))])
        page = Page(Grid(("auto", "auto"), align="start"), [
            at(1, 2, Block(7, 5)), at((1, 3), 1, inner, margins=(1, 2, 3, 4)), at(2, 2, Block(8, 6))])
        self.check(page, "column", 90, None, (("auto", "auto"), 0, [
            (0, 1, (7, 7, 7, 7, 7)), (0, 2, (6, 6, 6, 6, 6)), (0, 1, (39, 39, 39, 39, 39)), (1, 2, (57, 57, 57, 57, 57)),
            (1, 2, (8, 8, 8, 8, 8))], 90, True))
        self.check(page, "row", 90, None, (("auto", "auto"), 0, [
            (1, 2, (5, 5, 5, 5, 5)), (0, 1, (9, 9, 9, 9, 9)), (1, 2, (6, 6, 6, 6, 6))], "most", False))
        bare = Page(page.grid, [at((1, 3), 1, inner)])
        self.assertEqual([crossing[:2] for crossing in work(bare, "column", 90)[2]], [(0, 1), (1, 2)])

    def test_shims_are_further_margins(self):
        words = [Words((10,), 0, 20, base) for base in (5, 15)]
        page = Page(Grid(items_align="baseline"), [at(1, 1, words[0]), at(2, 1, words[1])])
        self.assertEqual(work(page, "row", 90)[2], [(0, 1, (30,) * 5), (0, 1, (20,) * 5)])

    def test_many_pages(self):
        for page, width, height in [*random_pages(640, 150, 0), *random_pages(641, 60, 2)]:
            found = layout(page, width, height)
            for axis, lanes in (("column", found.columns), ("row", found.rows)):
                arguments = work(page, axis, width, height)
                self.check_numbers(arguments, literal_pages.literal_work(page, axis, width, height))
                states = due_states(arguments)
                self.assertIs(judged(arguments, states), None)
                # The sizes of lanes that fell away are 0, those of the others are what the work makes.
                sizes = sized_lanes(*arguments[:4], stretched=arguments[4])
                self.assertEqual([size for size in sizes if size != 0], [size for _, size in lanes if size != 0])

    def test_what_is_returned_is_new(self):
        page = Page(Grid(("auto",)), [Item(WORDS)])
        work(page, "column", 50)[2].append(None)
        self.assertEqual(len(work(page, "column", 50)[2]), 1)
        self.assertEqual(work(height=None, width=50, axis="row", page=page), work(page, "row", 50))

    def test_errors(self):
        page = Page(Grid((("fill", (1,)),)))
        self.check_place(NoPage, {"part": "page", "index": -1}, lambda value: work(value, "row", 5), ("page",))
        plain = Page(Grid())
        self.check_place(NoNumber, {"part": "width"}, lambda value: work(plain, "row", value),
                         ("zero", "one", "huge", "half"))
        self.check_place(NoNumber, {"part": "height"}, lambda value: work(plain, "row", 5, value),
                         ("none", "zero", "one", "huge", "half"))
        self.check_place(NoAxis, {}, lambda value: work(plain, value, 5), ("row",))
        self.check_raises(NoPage, {"part": "page", "index": -1}, work, None, None, None, -1)
        self.check_raises(NoNumber, {"part": "width"}, work, page, None, None, -1)
        self.check_raises(NoNumber, {"part": "height"}, work, page, "rows", 100, -1)
        self.check_raises(NoAxis, {}, work, page, "rows", 100)
        for outer in (page, Page(Grid(), [Item(page)])):
            for axis in ("column", "row"):
                self.check_raises(ManyLanes, {"axis": "column"}, work, outer, axis, 100)
                self.assertIsNotNone(work(outer, axis, 60))


class StatesTest(Case):

    ARGUMENTS = (("auto", share(1), 40), 10, [(0, 1, (30, 80, 30, 30, 80)), (0, 2, (100, 100, 50, 100, 100))], 205, True)

    def test_right_states(self):
        for room in (0, 205, (501, 2), "least", "most"):
            arguments = (*self.ARGUMENTS[:3], room, self.ARGUMENTS[4])
            states = due_states(arguments)
            self.assertIs(judged(arguments, states), None)
            self.assertIs(judged(arguments, tuple(states)), None)
        self.assertIs(check_states((), 0, [], 0, lane_states((), 0, [], 0)), None)
        self.assertIs(check_states([], 0, (), 0, lane_states((), 0, [], 0), stretched=False), None)

    def test_their_number(self):
        states = due_states(self.ARGUMENTS)
        for many in range(len(states)):
            self.assertEqual(judged(self.ARGUMENTS, states[:many]), (many, states[many]))
        for more in (None, states[-1], 0, []):
            self.assertEqual(judged(self.ARGUMENTS, states + [more, None]), (len(states), None))
        for index in range(len(states)):
            without = states[:index] + states[index + 1:]
            self.assertEqual(judged(self.ARGUMENTS, without), (index, states[index]))
            twice = states[:index] + states[index - 1:]
            if index:
                self.assertEqual(judged(self.ARGUMENTS, twice), (index, states[index]))

    def test_the_stretched_state(self):
        states = due_states(self.ARGUMENTS)
        plain = (*self.ARGUMENTS[:4], False)
        self.assertEqual(judged(plain, states), (len(states) - 1, None))
        self.assertEqual(judged(self.ARGUMENTS, states[:-1]), (len(states) - 1, states[-1]))

    def changes(self, value):
        """Each value that one change of a part of a value makes."""
        if isinstance(value, tuple):
            for index, part in enumerate(value):
                for changed in self.changes(part):
                    yield value[:index] + (changed,) + value[index + 1:]
            yield list(value)
            yield value + (None,)
            yield value[:-1]
        elif isinstance(value, str):
            yield from (value + "s", value[:-1], value.encode(), None, [value])
        elif value is None:
            yield from (0, False, "None", ())
        else:
            yield from (value + 1, value - 1, -value - 1, None, str(value), (value,), (value, 1), (2 * value, 2))
            yield complex(value)
            if value in (0, 1):
                yield bool(value)

    def test_each_single_change(self):
        bounds = [(("auto", share(2), "least"), HALF, [(0, 3, (7, 80, 7, 7, 80)), (2, 3, (1, 1, 1, 1, 1))], (7, 3), False),
                  self.ARGUMENTS]
        for arguments in bounds:
            states = due_states(arguments)
            for index, state in enumerate(states):
                for changed in self.changes(state):
                    if repr(changed) != repr(state):
                        wrong = states[:index] + [changed] + states[index + 1:]
                        self.assertEqual(repr(judged(arguments, wrong)), repr((index, state)))

    def test_a_bool_is_no_number(self):
        states = lane_states((1, 0), 0, [], 1)
        self.assertEqual(states[0], (("begin",), (1, 0), (1, 0)))
        for wrong in ((("begin",), (True, 0), (1, 0)), (("begin",), (1, False), (1, 0)), (("begin",), (1, 0), (True, 0))):
            self.assertEqual(check_states((1, 0), 0, [], 1, [wrong, *states[1:]]), (0, states[0]))

    def test_items_of_any_kind(self):
        states = due_states(self.ARGUMENTS)
        for label, value in all_values().items():
            with self.subTest(label):
                self.assertEqual(judged(self.ARGUMENTS, [*states[:2], value]), (2, states[2]))
                self.assertEqual(judged(self.ARGUMENTS, [(value, *states[0][1:])]), (0, states[0]))
                due = (1, states[1]) if label == "zero" else (0, states[0])
                self.assertEqual(judged(self.ARGUMENTS, [(states[0][0], (value, 0, 40), states[0][2])]), due)

    def test_the_first_wrong_one(self):
        states = due_states(self.ARGUMENTS)
        self.assertEqual(judged(self.ARGUMENTS, [states[0], None, None]), (1, states[1]))
        self.assertEqual(judged(self.ARGUMENTS, []), (0, states[0]))

    def test_errors(self):
        sizes, gap, crossings, room, _ = self.ARGUMENTS
        allowed = [label for label, value in all_values().items() if isinstance(value, (list, tuple))]
        self.check_place(NoStates, {}, lambda value: check_states(sizes, gap, crossings, room, value), allowed)
        self.check_raises(NoSizes, {"index": -1}, check_states, 5, None, None, None, None, stretched=None)
        self.check_raises(NoSizes, {"index": 1}, check_states, (5, "a"), None, None, None, None, stretched=None)
        self.check_raises(NoNumber, {"part": "gap"}, check_states, sizes, None, None, None, None, stretched=None)
        self.check_raises(NoCrossings, {"index": -1}, check_states, sizes, 0, None, None, None, stretched=None)
        self.check_raises(NoCrossings, {"index": 0}, check_states, sizes, 0, [()], None, None, stretched=None)
        self.check_raises(NoNumber, {"part": "room"}, check_states, sizes, 0, [], None, None, stretched=None)
        self.check_raises(NoNumber, {"part": "stretched"}, check_states, sizes, 0, [], 0, None, stretched=None)
        self.check_raises(NoStates, {}, check_states, sizes, 0, [], 0, None, stretched=False)
        self.check_place(NoNumber, {"part": "room"}, lambda value: check_states((), 0, [], value, []),
                         ("zero", "one", "huge", "half"))
        self.check_place(NoNumber, {"part": "gap"}, lambda value: check_states((), value, [], 0, []),
                         ("zero", "one", "huge", "half"))
        self.check_place(NoNumber, {"part": "stretched"}, lambda value: check_states((), 0, [], 0, [], stretched=value),
                         ("true", "false"))

    def test_by_names(self):
        states = due_states(self.ARGUMENTS)
        sizes, gap, crossings, room, stretched = self.ARGUMENTS
        self.assertIs(check_states(stretched=stretched, states=states, room=room, crossings=crossings, gap=gap, sizes=sizes),
                      None)
        self.assertEqual(states, due_states(self.ARGUMENTS))


class LayoutTest(Case):

    def test_right_boxes(self):
        for page, width, height in [*random_pages(660, 60, 0), *random_pages(661, 60, 2)]:
            _, boxes = literal_pages.literal_boxes(page, width, height)
            self.assertIs(check_layout(page, boxes, width, height), None)
            self.assertIs(check_layout(page, tuple(boxes), width, height), None)
            self.assertEqual(check_layout(page, boxes + [()], width, height), (len(boxes), None))
            for index, box in enumerate(boxes):
                self.assertEqual(check_layout(page, boxes[:index], width, height), (index, box))
                wrong = boxes[:index] + [(box[1], box[0], box[3], box[2])] + boxes[index + 1:]
                self.assertEqual(check_layout(page, wrong, width, height), None if wrong == boxes else (index, box))

    def page(self):
        inner = Page(Grid((5, share(1))), [Item(Block(1, 2)), Item(Block(3, 4))])
        return Page(Grid((20, 30), (10, (21, 2))), [Item(inner, column=(2, None), margins=(1, 0, 0, 0)), Item(Block(5, 6))])

    def test_places_of_the_whole_page(self):
        boxes = [(20, 1, 30, 9), (20, 1, 5, 9), (25, 1, 25, 9), (0, 10, 20, (21, 2))]
        self.assertIs(check_layout(self.page(), boxes, 50), None)

    def test_each_single_change(self):
        boxes = [(20, 1, 30, 9), (20, 1, 5, 9), (25, 1, 25, 9), (0, 10, 20, (21, 2))]
        for index, box in enumerate(boxes):
            for part in range(4):
                for value in (*all_values().values(), -1, (box[part], 1), (2, 4), (21, 4)):
                    wrong = (*box[:part], value, *box[part + 1:])
                    given = boxes[:index] + [wrong] + boxes[index + 1:]
                    is_right = repr(value) == repr(box[part])
                    self.assertEqual(check_layout(self.page(), given, 50), None if is_right else (index, box))
            for wrong in (list(box), box[:3], box + (0,), None, (), *all_values().values()):
                given = boxes[:index] + [wrong] + boxes[index + 1:]
                self.assertEqual(check_layout(self.page(), given, 50), (index, box))

    def test_no_boxes(self):
        self.assertIs(check_layout(Page(Grid()), [], 50), None)
        self.assertIs(check_layout(Page(Grid()), (), 50, 20), None)
        self.assertEqual(check_layout(Page(Grid()), [(0, 0, 0, 0)], 50), (0, None))

    def test_a_told_height(self):
        page = Page(Grid((), ("auto",)), [Item(Block(5, 6))])
        self.assertIs(check_layout(page, [(0, 0, 50, 6)], 50), None)
        self.assertEqual(check_layout(page, [(0, 0, 50, 6)], 50, 9), (0, (0, 0, 50, 9)))
        self.assertIs(check_layout(height=9, width=50, boxes=[(0, 0, 50, 9)], page=page), None)

    def test_errors(self):
        plain = Page(Grid())
        allowed = [label for label, value in all_values().items() if isinstance(value, (list, tuple))]
        self.check_place(NoPage, {"part": "page", "index": -1}, lambda value: check_layout(value, [], 5), ("page",))
        self.check_place(NoStates, {}, lambda value: check_layout(plain, value, 5), allowed)
        self.check_place(NoNumber, {"part": "width"}, lambda value: check_layout(plain, [], value),
                         ("zero", "one", "huge", "half"))
        self.check_place(NoNumber, {"part": "height"}, lambda value: check_layout(plain, [], 5, value),
                         ("none", "zero", "one", "huge", "half"))
        page = Page(Grid((("fill", (1,)),)))
        self.check_raises(NoPage, {"part": "page", "index": -1}, check_layout, None, None, None, -1)
        self.check_raises(NoNumber, {"part": "width"}, check_layout, page, None, None, -1)
        self.check_raises(NoNumber, {"part": "height"}, check_layout, page, None, 100, -1)
        self.check_raises(NoStates, {}, check_layout, page, None, 100)
        self.check_raises(ManyLanes, {"axis": "column"}, check_layout, page, [], 100)


if __name__ == "__main__":
    unittest.main()
