"""Promise [13]: Item, and what [2] and [3] say of it."""

import inspect
import itertools
import unittest

from gridlanes.contents import Block, Words
from gridlanes.errors import NoItem
from gridlanes.pages import Grid, Item, Page
from tests.support import Case, HUGE, all_values

DEFAULTS = {
    "order": 0,
    "column": (None, None),
    "row": (None, None),
    "margins": (0, 0, 0, 0),
    "width": None,
    "height": None,
    "least_width": None,
    "greatest_width": None,
    "least_height": None,
    "greatest_height": None,
    "justify": None,
    "align": None,
}
OTHERS = {
    "order": -3,
    "column": (1, ("span", 2, "a")),
    "row": ("a", ("b", -2)),
    "margins": (1, (-1, 2), -3, 4),
    "width": 5,
    "height": (5, 2),
    "least_width": 1,
    "greatest_width": 0,
    "least_height": 7,
    "greatest_height": 3,
    "justify": "end",
    "align": "baseline",
}
WRONG = {
    "content": None,
    "order": True,
    "column": (0, None),
    "row": (None, "span"),
    "margins": (0, 0, 0),
    "width": -1,
    "height": True,
    "least_width": (-1, 2),
    "greatest_width": "auto",
    "least_height": ("part", 1),
    "greatest_height": (2, 4),
    "justify": "baseline",
    "align": "between",
}
SIZES = ("width", "height", "least_width", "greatest_width", "least_height", "greatest_height")
RIGHT_EDGES = (
    None, 1, 2, 29, 30, -1, -2, -29, -30, "a", "spa", "spann", "a" * 16, "a-1", "auto",
    ("a", 1), ("a", 30), ("a", -1), ("a", -30), ("auto", 3), ("a" * 16, 2),
    ("span", 1), ("span", 2), ("span", 30), ("span", 1, "a"), ("span", 30, "a" * 16),
)
WRONG_EDGES = (
    0, 31, -31, 32, 100, HUGE, -HUGE, True, False, "", "span", "A", "1", "-", "a" * 17, "a b", ".", b"a",
    (), ("a",), ("a", 0), ("a", 31), ("a", -31), ("a", True), ("a", None), ("a", "b"), ("a", 1, 1), ("a", (1, 2)),
    ("A", 1), ("", 1), (1, "a"), ("a" * 17, 1), ["a", 1], [1], (1,), (1, 2), (None, 1), (b"a", 1),
    ("span",), ("span", 0), ("span", 31), ("span", -1), ("span", -30), ("span", True), ("span", None), ("span", "a"),
    ("span", 1, "A"), ("span", 1, ""), ("span", 1, "span"), ("span", 1, None), ("span", 0, "a"), ("span", 31, "a"),
    ("span", -1, "a"), ("span", True, "a"), ("span", "a", 1), ("span", 1, "a", "a"), ("span", 1, 1), ["span", 1],
    (b"span", 1), ("Span", 1), ("span", 1, "a" * 17), ("span", 1, b"a"), ("span", (1, 2)), {}, set(), 1 + 0j, range(2),
)


class ItemTest(Case):

    def test_attributes(self):
        for content in (Words((3,), 1, 2, 1), Block(1, 2), Page(Grid())):
            self.assertEqual(vars(Item(content)), {"content": content, **DEFAULTS})
            self.assertEqual(vars(Item(content, **OTHERS)), {"content": content, **OTHERS})
            self.assertIs(Item(content).content, content)
        self.assertEqual(repr({**vars(Item(Block(1, 2), **OTHERS)), "content": 0}), repr({"content": 0, **OTHERS}))

    def test_parameters(self):
        parameters = inspect.signature(Item).parameters
        self.assertEqual(list(parameters), ["content", *DEFAULTS])
        self.assertEqual({name: parameters[name].default for name in DEFAULTS}, DEFAULTS)
        self.assertEqual(parameters["content"].default, inspect.Parameter.empty)
        for name in DEFAULTS:
            self.assertEqual(parameters[name].kind, inspect.Parameter.KEYWORD_ONLY)
        self.assertEqual(Item(content=Block(1, 2)), Item(Block(1, 2)))
        with self.assertRaises(TypeError):
            Item(Block(1, 2), 0)

    def test_defined_in_the_file_and_in_the_class(self):
        self.assertEqual(Item.__module__, "gridlanes.pages")
        self.assertTrue("__init__" in vars(Item) and "__eq__" in vars(Item))

    def test_equal_just_if_all_attributes_are(self):
        self.assertTrue(Item(Block(1, 2)) == Item(Block(1, 2)))
        self.assertFalse(Item(Block(1, 2)) != Item(Block(1, 2)))
        self.assertTrue(Item(Block(1, 2), **OTHERS) == Item(Block(1, 2), **OTHERS))
        for name in DEFAULTS:
            with self.subTest(name):
                self.assertFalse(Item(Block(1, 2)) == Item(Block(1, 2), **{name: OTHERS[name]}))
                self.assertTrue(Item(Block(1, 2)) != Item(Block(1, 2), **{name: OTHERS[name]}))
        for content in (Block(1, 1), Words((), 0, 0, 0), Page(Grid())):
            self.assertFalse(Item(Block(1, 2)) == Item(content))

    def test_equal_to_nothing_of_another_kind(self):
        for label, value in all_values().items():
            with self.subTest(label):
                self.assertEqual(Item(Block(1, 2)) == value, label == "item")
                self.assertEqual(Item(Block(1, 2)) != value, label != "item")

    def test_the_first_wrong_parameter(self):
        for name in WRONG:
            self.check_raises(NoItem, {"part": name}, Item, **{"content": Block(1, 2), name: WRONG[name]})
        for one, other in itertools.combinations(WRONG, 2):
            given = {"content": Block(1, 2), other: WRONG[other], one: WRONG[one]}
            self.check_raises(NoItem, {"part": one}, Item, **given)
        names = list(WRONG)
        for at, name in enumerate(names):
            given = {"content": Block(1, 2), **{later: WRONG[later] for later in names[at:]}}
            self.check_raises(NoItem, {"part": name}, Item, **given)

    def check_parameter(self, name, allowed):
        self.check_place(NoItem, {"part": name}, lambda value: Item(**{"content": Block(1, 2), name: value}), allowed)

    def test_content(self):
        self.check_parameter("content", ("words", "block", "page"))

    def test_order(self):
        self.check_parameter("order", ("zero", "one", "minus one", "huge", "minus huge"))

    def test_sizes(self):
        for name in SIZES:
            self.check_parameter(name, ("none", "zero", "one", "huge", "half"))

    def test_words(self):
        ways = ("start", "end", "center", "stretch")
        for name, right in (("justify", ways), ("align", (*ways, "baseline"))):
            for word in (*ways, "baseline", "between", "around", "evenly", "auto", "", "Start", "row", "left"):
                if word in right:
                    self.assertEqual(getattr(Item(Block(1, 2), **{name: word}), name), word)
                else:
                    self.check_raises(NoItem, {"part": name}, Item, Block(1, 2), **{name: word})
        self.check_parameter("justify", ("none", "start", "stretch"))
        self.check_parameter("align", ("none", "start", "stretch", "baseline"))

    def test_a_least_size_above_the_greatest_is_allowed(self):
        item = Item(Block(1, 2), least_width=5, greatest_width=4, least_height=3, greatest_height=(1, 2))
        self.assertEqual((item.least_width, item.greatest_width), (5, 4))


class MarginsTest(Case):

    def test_margins(self):
        for margins in ((0, 0, 0, 0), (1, -1, (1, 2), (-1, 2)), (HUGE, -HUGE, (7, 3), 0)):
            self.assertEqual(Item(Block(1, 2), margins=margins).margins, margins)

    def test_how_many(self):
        for many in (0, 1, 2, 3, 5, 6, 8):
            self.check_raises(NoItem, {"part": "margins"}, Item, Block(1, 2), margins=(1,) * many)

    def test_values_of_all_kinds(self):
        def with_margins(value):
            return Item(Block(1, 2), margins=value)
        self.check_place(NoItem, {"part": "margins"}, with_margins, ("four integers",))
        for at in range(4):
            def with_margin(value):
                return Item(Block(1, 2), margins=(0,) * at + (value,) + (0,) * (3 - at))
            self.check_place(NoItem, {"part": "margins"}, with_margin,
                             ("zero", "one", "minus one", "huge", "minus huge", "half", "minus half"))
        self.check_raises(NoItem, {"part": "margins"}, Item, Block(1, 2), margins=[0, 0, 0, 0])


class EdgesTest(Case):

    def check_edges(self, edges, is_right):
        for name in ("column", "row"):
            with self.subTest(name=name, edges=edges):
                if is_right:
                    self.assertEqual(getattr(Item(Block(1, 2), **{name: edges}), name), edges)
                else:
                    self.check_raises(NoItem, {"part": name}, Item, Block(1, 2), **{name: edges})

    def test_right_edges(self):
        for start, end in itertools.product(RIGHT_EDGES, repeat=2):
            self.check_edges((start, end), True)

    def test_wrong_edges(self):
        for edge in WRONG_EDGES:
            self.check_edges((edge, None), False)
            self.check_edges((None, edge), False)
            self.check_edges((edge, edge), False)

    def test_how_many_edges(self):
        for edges in ((), (1,), (1, 2, 3), (None,) * 4, [1, 2], [None, None], 1, "ab", {1: 2}, {1, 2}, None):
            self.check_edges(edges, False)

    def test_a_span_of_two_is_no_pair_of_edges(self):
        self.check_edges(("span", 2), False)
        self.check_edges(("span", 2, "a"), False)
        self.check_edges(("spam", 2), True)

    def test_values_of_all_kinds(self):
        pairs = ("tuple of none", "tuple of names", "name and integer", "two fourths", "one whole", "bottom below",
                 "half", "minus half", "none mark", "part", "share")
        edges = ("none", "one", "minus one", "name", "auto", "start", "stretch", "between", "baseline", "row",
                 "name and integer", "part", "share")
        counts = ("one", "minus one")
        for name in ("column", "row"):
            def item(value):
                return Item(Block(1, 2), **{name: value})
            fields = {"part": name}
            self.check_place(NoItem, fields, item, pairs)
            self.check_place(NoItem, fields, lambda value: item((value, None)), edges)
            self.check_place(NoItem, fields, lambda value: item((1, value)), edges)
            self.check_place(NoItem, fields, lambda value: item((1, ("a", value))), counts)
            self.check_place(NoItem, fields, lambda value: item((("span", value), None)), ("one",))
            self.check_place(NoItem, fields, lambda value: item((("span", value, "a"), None)), ("one",))
            names = ("name", "auto", "start", "stretch", "between", "baseline", "row")
            self.check_place(NoItem, fields, lambda value: item((("span", 2, value), None)), names)
            self.check_place(NoItem, fields, lambda value: item(((value, 2), None)), (*names, "span"))


if __name__ == "__main__":
    unittest.main()
