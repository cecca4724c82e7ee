"""Promise [12]: Grid, and what [2] and [3] say of it."""

import inspect
import itertools
import unittest

from gridlanes.errors import NoGrid
from gridlanes.pages import Grid
from tests.support import Case, HUGE, all_values

DEFAULTS = {
    "columns": (),
    "rows": (),
    "fields": (),
    "more_columns": ("auto",),
    "more_rows": ("auto",),
    "flow": "row",
    "dense": False,
    "column_gap": 0,
    "row_gap": 0,
    "justify": "stretch",
    "align": "stretch",
    "items_justify": "stretch",
    "items_align": "stretch",
}
OTHERS = {
    "columns": (5, ("names", ("a",))),
    "rows": ("inherited", (("a",),)),
    "fields": (("a", "."),),
    "more_columns": (5, "auto"),
    "more_rows": (("upto", 5),),
    "flow": "column",
    "dense": True,
    "column_gap": (1, 2),
    "row_gap": ("part", (1, 2)),
    "justify": "evenly",
    "align": "around",
    "items_justify": "end",
    "items_align": "baseline",
}
# A wrong value of each parameter, and the index that NoGrid tells for it.
WRONG = {
    "columns": ((-1,), -1),
    "rows": (None, -1),
    "fields": ((("a", "b"), ("a",)), 1),
    "more_columns": ((), -1),
    "more_rows": ((5, 5, -5), 2),
    "flow": ("rows", -1),
    "dense": (0, -1),
    "column_gap": ("auto", -1),
    "row_gap": (-1, -1),
    "justify": ("baseline", -1),
    "align": (None, -1),
    "items_justify": ("baseline", -1),
    "items_align": ("between", -1),
}
LANES_WAYS = ("start", "end", "center", "stretch", "between", "around", "evenly")
WAYS = ("start", "end", "center", "stretch")


class GridTest(Case):

    def test_attributes(self):
        self.assertEqual(vars(Grid()), DEFAULTS)
        self.assertEqual(vars(Grid(**OTHERS)), OTHERS)
        self.assertEqual(repr(vars(Grid(**OTHERS))), repr(OTHERS))

    def test_parameters(self):
        parameters = inspect.signature(Grid).parameters
        self.assertEqual({name: parameters[name].default for name in parameters}, DEFAULTS)
        self.assertEqual(list(parameters), list(DEFAULTS))
        for name in parameters:
            kind = parameters[name].kind
            is_free = name in ("columns", "rows")
            self.assertEqual(kind, kind.POSITIONAL_OR_KEYWORD if is_free else kind.KEYWORD_ONLY)

    def test_by_position_and_by_name(self):
        self.assertEqual(Grid((5,), (6,)), Grid(rows=(6,), columns=(5,)))
        with self.assertRaises(TypeError):
            Grid((), (), ())

    def test_defined_in_the_file_and_in_the_class(self):
        self.assertEqual(Grid.__module__, "gridlanes.pages")
        self.assertTrue("__init__" in vars(Grid) and "__eq__" in vars(Grid))

    def test_equal_just_if_all_attributes_are(self):
        self.assertTrue(Grid() == Grid())
        self.assertTrue(Grid(**OTHERS) == Grid(**dict(OTHERS)))
        self.assertFalse(Grid() != Grid())
        for name in DEFAULTS:
            with self.subTest(name):
                self.assertFalse(Grid() == Grid(**{name: OTHERS[name]}))
                self.assertTrue(Grid() != Grid(**{name: OTHERS[name]}))
                self.assertFalse(Grid(**OTHERS) == Grid(**{**OTHERS, name: DEFAULTS[name]}))

    def test_equal_to_nothing_of_another_kind(self):
        for label, value in all_values().items():
            with self.subTest(label):
                self.assertEqual(Grid() == value, label == "grid")
                self.assertEqual(Grid() != value, label != "grid")

    def test_the_first_wrong_parameter(self):
        for name in WRONG:
            fields = {"part": name, "index": WRONG[name][1]}
            self.check_raises(NoGrid, fields, Grid, **{name: WRONG[name][0]})
        for one, other in itertools.combinations(WRONG, 2):
            given = {other: WRONG[other][0], one: WRONG[one][0]}
            self.check_raises(NoGrid, {"part": one, "index": WRONG[one][1]}, Grid, **given)
        names = list(WRONG)
        for at, name in enumerate(names):
            given = {later: WRONG[later][0] for later in names[at:]}
            self.check_raises(NoGrid, {"part": name, "index": WRONG[name][1]}, Grid, **given)

    def check_words(self, name, right):
        words = {"row", "column", "start", "end", "center", "stretch", "between", "around", "evenly", "baseline",
                 "left", "rows", "auto", "", "Start", "start ", "star", "flex-start", "normal"}
        for word in words | set(right):
            if word in right:
                self.assertEqual(getattr(Grid(**{name: word}), name), word)
            else:
                self.check_raises(NoGrid, {"part": name, "index": -1}, Grid, **{name: word})
        labels = [label for label, value in all_values().items() if isinstance(value, str) and value in right]
        self.check_place(NoGrid, {"part": name, "index": -1}, lambda value: Grid(**{name: value}), labels)

    def test_words(self):
        self.check_words("flow", ("row", "column"))
        self.check_words("justify", LANES_WAYS)
        self.check_words("align", LANES_WAYS)
        self.check_words("items_justify", WAYS)
        self.check_words("items_align", (*WAYS, "baseline"))

    def test_dense(self):
        self.check_place(NoGrid, {"part": "dense", "index": -1}, lambda value: Grid(dense=value), ("true", "false"))
        self.assertIs(Grid(dense=True).dense, True)

    def test_gaps(self):
        for name in ("column_gap", "row_gap"):
            for gap in (0, 3, HUGE, (7, 3), ("part", 0), ("part", 1), ("part", (1, 3))):
                self.assertEqual(getattr(Grid(**{name: gap}), name), gap)
            for gap in (-1, (-1, 2), (2, 4), "auto", "least", ("share", 1), ("part", -1), ("part", (-1, 2)),
                        ("upto", 5), ("between", 1, 2), ("part",), ("part", 1, 1), True):
                self.check_raises(NoGrid, {"part": name, "index": -1}, Grid, **{name: gap})
            self.check_place(NoGrid, {"part": name, "index": -1}, lambda value: Grid(**{name: value}),
                             ("zero", "one", "huge", "half", "part"))


class FurtherSizesTest(Case):

    def check_further(self, sizes, index):
        """Check sizes for further columns and rows: index is None if they are right."""
        for name in ("more_columns", "more_rows"):
            if index is None:
                self.assertEqual(getattr(Grid(**{name: sizes}), name), sizes)
            else:
                self.check_raises(NoGrid, {"part": name, "index": index}, Grid, **{name: sizes})

    def test_how_many(self):
        for many in (1, 2, 7, 8):
            self.check_further((5,) * many, None)
        for many in (0, 9, 10, 100):
            self.check_further((5,) * many, -1)
            self.check_further((None,) * many, -1)

    def test_each(self):
        for many in (1, 2, 8):
            for at in range(many):
                for value in (None, -1, ("names", ("a",)), ("repeat", 2, (5,)), ("fill", (5,)), ("inherited", ()), True):
                    self.check_further((5,) * at + (value,) + ("auto",) * (many - at - 1), at)

    def test_the_first_wrong_one(self):
        self.check_further((5, -1, None), 1)
        self.check_further((None, -1, None), 0)

    def test_all_kinds_of_sizes(self):
        self.check_further((5, (1, 2), ("part", 1), ("share", 1), "least", "most", "auto", ("upto", 5)), None)
        self.check_further((("between", "auto", ("share", 1)), ("between", 5, 4)), None)

    def test_values_of_all_kinds(self):
        right = ("tuple of auto", "half", "tuple of integers", "four integers", "two fourths", "one whole", "no top",
                 "no bottom")
        later = {"name and integer": 0, "bottom below": 1, "bool below": 1, "minus half": 0}
        for label, value in all_values().items():
            with self.subTest(label):
                if label in right:
                    self.check_further(value, None)
                elif isinstance(value, tuple) and len(value) > 0:
                    self.check_further(value, later.get(label, 0))
                else:
                    self.check_further(value, -1)
        for name in ("more_columns", "more_rows"):
            self.check_place(NoGrid, {"part": name, "index": 1}, lambda value: Grid(**{name: (5, value, 5)}),
                             ("zero", "one", "huge", "half", "auto", "part", "share"))


class FieldsTest(Case):

    def check_fields(self, fields, index):
        """Check fields: index is None if they are right."""
        with self.subTest(fields):
            if index is None:
                self.assertEqual(Grid(fields=fields).fields, fields)
            else:
                self.check_raises(NoGrid, {"part": "fields", "index": index}, Grid, fields=fields)

    def test_right_ones(self):
        for fields in ((), ((".",),), (("a",),), (("a", "a"), ("a", "a")), (("a", "."), (".", "b")),
                       (("a", "a", "b"), ("c", ".", "b")), ((".", "."), (".", ".")), (("auto", "part"),),
                       (("a",), ("a",), ("b",)), (("a" * 16, "b-"),)):
            self.check_fields(fields, None)

    def test_how_many_rows(self):
        for many in (0, 1, 19, 20):
            self.check_fields((("a", "."),) * many, None)
        for many in (21, 22):
            self.check_fields((("a", "."),) * many, -1)
            self.check_fields((None,) * many, -1)

    def test_how_many_words(self):
        for many in (1, 2, 19, 20):
            self.check_fields((("a",) * many,) * 2, None)
            self.check_fields((("a",) * many,) * 20, None)
        for many in (0, 21, 22):
            self.check_fields((("a",) * many,) * 2, 0)

    def test_rows_of_other_lengths(self):
        self.check_fields((("a", "b"), ("a", "b"), ("a",)), 2)
        self.check_fields((("a", "b"), ("a", "b", "c"), ("a",)), 1)
        self.check_fields((("a",), ("a", "b")), 1)
        self.check_fields((("a",), ()), 1)
        self.check_fields(((), ("a",)), 0)

    def test_rows_of_all_kinds(self):
        fields = {"part": "fields", "index": 1}
        self.check_place(NoGrid, fields, lambda value: Grid(fields=((".",), value)), ("tuple of auto",))
        self.check_place(NoGrid, fields, lambda value: Grid(fields=((".", "."), value)), ("tuple of names",))
        fields = {"part": "fields", "index": 0}
        self.check_place(NoGrid, fields, lambda value: Grid(fields=(value,)), ("tuple of auto", "tuple of names"))

    def test_words_of_all_kinds(self):
        names = ("name", "dot", "auto", "start", "stretch", "between", "baseline", "row")
        for at in range(3):
            def with_word(value):
                return Grid(fields=((".", "."),) * at + ((".", value),) + ((".", "."),) * (2 - at))
            self.check_place(NoGrid, {"part": "fields", "index": at}, with_word, names)

    def test_wrong_words(self):
        for word in ("", "..", ". ", "span", "A", "1", "-", "a" * 17, "a b", b".", None, ("a",)):
            self.check_fields((("a", word),), 0)
            self.check_fields((("a", "b"), ("a", word)), 1)

    def test_fields_of_all_kinds(self):
        right = ("no tuple items", "rows of words")
        for label, value in all_values().items():
            if label not in right:
                is_tuple = isinstance(value, tuple)
                self.check_fields(value, 0 if is_tuple else -1)
            else:
                self.check_fields(value, None)

    def test_cells_that_make_no_rectangle(self):
        for fields, index in (
            ((("a", ".", "a"),), 0),
            ((("a", "b", "a"),), 0),
            (((".", "."), ("a", "b"), ("b", "a")), 1),
            ((("a",), (".",), ("a",)), 0),
            ((("a",), ("b",), ("a",)), 0),
            ((("a", "a"), ("a", ".")), 0),
            ((("a", "a"), (".", "a")), 0),
            ((("a", "."), ("a", "a")), 0),
            (((".", "a"), ("a", "a")), 0),
            ((("a", "a"), ("a", "b")), 0),
            ((("a", "a", "a"), ("a", "b", "a"), ("a", "a", "a")), 0),
            ((("c", "c"), ("c", "c"), ("b", "a"), ("a", ".")), 2),
            ((("x", "y"), ("x", "y"), ("b", "."), (".", "."), (".", "b")), 2),
            ((("x", "y"), ("z", "y"), ("z", "w"), ("w", "w")), 2),
        ):
            self.check_fields(fields, index)

    def test_the_first_row_with_such_a_word(self):
        self.check_fields((("c", "b"), ("a", "b"), ("b", "a")), 0)
        self.check_fields((("c", "d"), ("a", "b"), ("b", "a")), 1)

    def test_wrong_rows_come_first(self):
        self.check_fields((("a", "b"), ("b", "a"), ("a",)), 2)
        self.check_fields((("a", "b", "a"), ("b", "a", None)), 1)

    def test_all_rectangles_of_a_small_grid(self):
        for words in itertools.product("ab.", repeat=6):
            fields = (words[:3], words[3:])
            wrong = [row for row in range(2) if any(not self.is_whole(fields, word) for word in fields[row])]
            self.check_fields(fields, wrong[0] if wrong else None)

    def test_fields_of_four_hundred_cells(self):
        one = (("a",) * 20,) * 20
        two = (("a",) * 7 + ("b",) * 13,) * 20
        three = two[:5] + (("c",) * 20,) * 15
        many = tuple(tuple(f"f-{row}-{column}" for column in range(20)) for row in range(20))
        for fields in (one, two, three, many, many[:10] + (("a",) * 20,) * 10):
            self.check_fields(fields, None)
        for at in (0, 1, 18, 19):
            for word in ("b", "."):
                hole = ("a",) * 19 + (word,)
                self.check_fields((("a",) * 20,) * at + (hole,) + (("a",) * 20,) * (19 - at), 0)
            self.check_fields(many[:at] + (("x", "y", "x") + many[at][3:],) + many[at + 1:], at)
        self.check_fields(three[:19] + (three[0],), 0)
        self.check_fields((("d",) * 20,) + three[:18] + (three[0],), 1)

    def is_whole(self, fields, word):
        """Tell whether each cell between two cells of a word has this word."""
        if word == ".":
            return True
        cells = [(row, column) for row in range(2) for column in range(3) if fields[row][column] == word]
        rows = range(min(cell[0] for cell in cells), max(cell[0] for cell in cells) + 1)
        columns = range(min(cell[1] for cell in cells), max(cell[1] for cell in cells) + 1)
        return all(fields[row][column] == word for row in rows for column in columns)


if __name__ == "__main__":
    unittest.main()
