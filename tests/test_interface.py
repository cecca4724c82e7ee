"""The interface: each function stands in its module, with the parameters and defaults that the document lists."""

import importlib
import inspect
import unittest

FUNCTIONS = {
    "contents": ("least_width(content)", "most_width(content)", "height_in(content, width)", "lines_in(content, width)"),
    "lines": ("lines_of(grid, axis, *, count=1)", "edges_of(grid, axis, edges, *, count=1)"),
    "walks": ("places(page, *, counts=(1, 1))",),
    "repeats": ("repeats_of(grid, axis, whole)", "template_sizes(grid, axis, count)",
                "lane_sizes(grid, axis, count, first, behind)", "lane_count(grid, axis, count)",
                "fallen_lanes(grid, axis, count, areas)", "gap_of(grid, axis, whole)"),
    "lanes": ("lane_states(sizes, gap, crossings, room, *, stretched=False)",
              "sized_lanes(sizes, gap, crossings, room, *, stretched=False)"),
    "own": ("own_widths(page)",),
    "rows": ("own_height(page, width)", "shims(page, width, height=None)", "areas(page, width, height=None)",
             "first_baseline(page, width, height=None)"),
    "contributions": ("contributions(item, axis, sizes, gap, *, whole=None, inner=None, own=None)",),
    "layouts": ("layout(page, width, height=None)",),
    "orders": ("reordered(page, places)", "keeps(page, places, width, height=None)",
               "orders_kept(page, width, height=None)", "first_exchange(page, width, height=None)"),
    "paths": ("length_at(page, path)", "with_length(page, path, value)"),
    "pieces": ("box_paths(page)", "pieces(page, vary, low, high, *, width=None, height=None, most=200)"),
    "wishes": ("holds(page, vary, low, high, wish, *, width=None, height=None, most=200)",
               "first_unlike(page, other, vary, low, high, *, other_vary=None, width=None, height=None, most=200)",
               "shrinks(page, vary, low, high, box, side, *, width=None, height=None, most=200)",
               "last_turn(page, vary, low, *, width=None, height=None, most=200)"),
    "moves": ("moved(page, path, value, width, height=None)",
              "least_move(page, path, box, *, width, height=None, limit=None, most=200)",
              "least_fall(page, path, box, *, width, height=None, limit=0, most=200)"),
    "texts": ("page_text(page)", "read_page(text)"),
    "judging": ("work(page, axis, width, height=None)",
                "check_states(sizes, gap, crossings, room, states, *, stretched=False)",
                "check_layout(page, boxes, width, height=None)"),
}
CLASSES = {
    "contents": ("Words(widths, blank, line, base)", "Block(width, height)"),
    "pages": ("Grid", "Item", "Page(grid, members=())"),
    "layouts": ("Layout",),
}


class InterfaceTest(unittest.TestCase):

    def check(self, module, line):
        name = line.split("(")[0]
        found = getattr(importlib.import_module(f"gridlanes.{module}"), name)
        self.assertEqual(found.__module__, f"gridlanes.{module}")
        if "(" in line:
            self.assertEqual(name + str(inspect.signature(found)), line)
        return found

    def test_functions(self):
        for module, lines in FUNCTIONS.items():
            for line in lines:
                self.assertTrue(inspect.isfunction(self.check(module, line)))

    def test_classes(self):
        for module, lines in CLASSES.items():
            for line in lines:
                found = self.check(module, line)
                self.assertTrue(inspect.isclass(found))
                self.assertTrue("__init__" in vars(found) and "__eq__" in vars(found))


if __name__ == "__main__":
    unittest.main()
