"""The interface: each function stands in its module, with the parameters and defaults that the document lists."""

import importlib
import inspect
import unittest

FUNCTIONS = {
    "contents": ("least_width(content)", "most_width(content)", "height_in(content, width)", "lines_in(content, width)"),
    "lines": ("lines_of(grid, axis, *, count=1)", "edges_of(grid, axis, edges, *, count=1)"),
    "walks": ("places(page, *, counts=(1, 1))",),
    "repeats": ("repeats_of(grid, axis, whole)", "template_sizes(grid, axis, count)",
                "lane_sizes(grid, axis, count, first, behind)", "lane_count(grid, axis, count)",
                "fallen_lanes(grid, axis, count, areas)", "gap_of(grid, axis, whole)"),
    "lanes": ("lane_states(sizes, gap, crossings, room, *, stretched=False)",
              "sized_lanes(sizes, gap, crossings, room, *, stretched=False)"),
    "own": ("own_widths(page)",),
    "rows": ("own_height(page, width)", "shims(page, width, height=None)", "areas(page, width, height=None)",
             "first_baseline(page, width, height=None)"),
    "contributions": ("contributions(item, axis, sizes, gap, *, whole=None, inner=None, own=None)",),
}
CLASSES = {
    "contents": ("Words(widths, blank, line, base)", "Block(width, height)"),
    "pages": ("Grid", "Item", "Page(grid, members=())"),
}


class InterfaceTest(unittest.TestCase):

    def check(self, module, line):
        name = line.split("(")[0]
        found = getattr(importlib.import_module(f"gridlanes.{module}"), name)
        self.assertEqual(found.__module__, f"gridlanes.{module}")
        if "(" in line:
            self.assertEqual(name + str(inspect.signature(found)), line)
        return found

    def test_functions(self):
        for module, lines in FUNCTIONS.items():
            for line in lines:
                self.assertTrue(inspect.isfunction(self.check(module, line)))

    def test_classes(self):
        for module, lines in CLASSES.items():
            for line in lines:
                found = self.check(module, line)
                self.assertTrue(inspect.isclass(found))
                self.assertTrue("__init__" in vars(found) and "__eq__" in vars(found))


if __name__ == "__main__":
    unittest.main()
