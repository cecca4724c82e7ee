"""Promise [2] for each function of the interface: names of arguments, what is handed in, what is returned."""

import importlib
import inspect
import unittest

from gridlanes.contents import Block, Words
from gridlanes.judging import work
from gridlanes.lanes import lane_states
from gridlanes.layouts import Layout, layout
from gridlanes.pages import Grid, Item, Page
from gridlanes.texts import page_text
from tests.short import WORDS, at, share
from tests.test_interface import FUNCTIONS


def example_page():
    inner = Page(Grid((share(1), "auto")), [Item(WORDS), Item(Block(7, 9))])
    return Page(Grid((30, ("between", 20, share(1)), "auto"), column_gap=4, items_align="baseline"), [
        Item(WORDS), Item(inner, align="stretch"), at(2, 2, Block(5, 6), margins=(1, 2, 3, 4))])


def arguments():
    """For each function all its arguments by their names."""
    page, grid = example_page(), Grid((5, ("fill", (10,))), more_columns=(1, 2))
    crossings = [(0, 1, (5, 9, 5, 5, 9))]
    states = lane_states(["auto"], 0, crossings, 20, stretched=True)
    varied = {"page": page, "vary": "width", "low": 0, "high": 300, "width": None, "height": None, "most": 90}
    path = ("members", 0, "content", "widths", 1)
    box = {"page": page, "path": path, "box": 4, "width": 150, "height": None, "most": 90}
    lanes = {"sizes": ["auto"], "gap": 0, "crossings": crossings, "room": 20, "stretched": True}
    laid = {"page": page, "width": 150, "height": 90}
    boxes = [(0, 0, 30, 36)]
    return {
        "least_width": {"content": WORDS}, "most_width": {"content": WORDS},
        "height_in": {"content": WORDS, "width": 60}, "lines_in": {"content": WORDS, "width": 60},
        "lines_of": {"grid": grid, "axis": "column", "count": 2},
        "edges_of": {"grid": grid, "axis": "column", "edges": (1, None), "count": 2},
        "places": {"page": page, "counts": (1, 2)},
        "repeats_of": {"grid": grid, "axis": "column", "whole": 90},
        "template_sizes": {"grid": grid, "axis": "column", "count": 3},
        "lane_sizes": {"grid": grid, "axis": "column", "count": 3, "first": -1, "behind": 6},
        "lane_count": {"grid": grid, "axis": "column", "count": 3},
        "fallen_lanes": {"grid": Grid((("fit", (10,)),)), "axis": "column", "count": 3, "areas": [(0, 1)]},
        "gap_of": {"grid": grid, "axis": "column", "whole": 90},
        "lane_states": dict(lanes), "sized_lanes": dict(lanes), "own_widths": {"page": page},
        "own_height": {"page": page, "width": 150}, "shims": dict(laid), "areas": dict(laid), "first_baseline": dict(laid),
        "contributions": {"item": Item(WORDS), "axis": "row", "sizes": ("auto",), "gap": 1, "whole": 9, "inner": 60,
                          "own": None},
        "layout": dict(laid), "reordered": {"page": page, "places": [1, 0, 2]},
        "keeps": {**laid, "places": [0, 2, 1]}, "orders_kept": dict(laid), "first_exchange": dict(laid),
        "length_at": {"page": page, "path": path}, "with_length": {"page": page, "path": path, "value": 9},
        "box_paths": {"page": page}, "pieces": varied,
        "holds": {**varied, "wish": ("not", ("wide", 1, 40))},
        "first_unlike": {**varied, "other": example_page(), "other_vary": "width"},
        "shrinks": {**varied, "box": 0, "side": "tall"},
        "last_turn": {name: value for name, value in varied.items() if name != "high"},
        "moved": {"page": page, "path": path, "value": 9, "width": 150, "height": None},
        "least_move": {**box, "limit": None}, "least_fall": {**box, "limit": 3},
        "page_text": {"page": page}, "read_page": {"text": page_text(page)},
        "work": {**laid, "axis": "row"}, "check_states": {**lanes, "states": states[:3]},
        "check_layout": {**laid, "boxes": boxes},
    }


def shown(value):
    """A value as a text in which equal pages, lists and layouts look alike."""
    if isinstance(value, Page):
        return page_text(value)
    if isinstance(value, (Grid, Item, Words, Block, Layout)):
        return [value.__class__.__name__, *[shown(part) for part in vars(value).values()]]
    if isinstance(value, (list, tuple)):
        return [value.__class__.__name__, *[shown(part) for part in value]]
    return repr(value)


def change(value):
    """Change every list in a value."""
    if isinstance(value, Layout):
        for part in vars(value).values():
            change(part)
    if isinstance(value, (list, tuple)):
        for part in value:
            change(part)
        if isinstance(value, list):
            value.append("changed")


class FunctionsTest(unittest.TestCase):

    def each(self):
        """Each function, with its own arguments."""
        told = arguments()
        names = []
        for module, lines in FUNCTIONS.items():
            for line in lines:
                name = line.split("(")[0]
                names.append(name)
                yield getattr(importlib.import_module(f"gridlanes.{module}"), name), told[name]
        self.assertEqual(sorted(names), sorted(told))
        self.assertEqual(len(names), 42)

    def test_all_arguments_by_their_names_in_any_order(self):
        for call, given in self.each():
            due = shown(call(**given))
            parameters = list(inspect.signature(call).parameters.values())
            self.assertEqual(sorted(given), sorted(parameter.name for parameter in parameters))
            self.assertEqual(shown(call(**dict(reversed(given.items())))), due)
            by_position = [parameter.name for parameter in parameters if parameter.kind != parameter.KEYWORD_ONLY]
            by_name = {name: value for name, value in given.items() if name not in by_position}
            self.assertEqual(shown(call(*[given[name] for name in by_position], **by_name)), due)
            if by_name:
                with self.assertRaises(TypeError):
                    call(*[given[parameter.name] for parameter in parameters])

    def test_nothing_that_is_handed_in_is_changed(self):
        for call, given in self.each():
            before = shown(list(given.values()))
            call(**given)
            self.assertEqual(shown(list(given.values())), before)

    def test_what_is_returned_is_new(self):
        for call, given in self.each():
            before = shown(list(given.values()))
            found = call(**given)
            due = shown(found)
            change(found)
            self.assertEqual(shown(call(**given)), due)
            self.assertEqual(shown(list(given.values())), before)

    def test_equal_arguments_give_equal_results(self):
        others = arguments()
        for call, given in self.each():
            self.assertEqual(shown(call(**given)), shown(call(**others[call.__name__])))

    def test_later_changes_of_lists_have_no_effect(self):
        widths, members = [20, 50], [Item(WORDS)]
        words, page = Words(widths, 5, 12, 9), Page(Grid(), members)
        widths.append(9)
        members.clear()
        self.assertEqual((words.widths, len(page.members)), ((20, 50), 1))
        crossings = work(example_page(), "column", 150)[2]
        crossings.clear()
        self.assertNotEqual(work(example_page(), "column", 150)[2], [])
        found = layout(example_page(), 150)
        change(found)
        self.assertFalse(found == layout(example_page(), 150))


if __name__ == "__main__":
    unittest.main()
