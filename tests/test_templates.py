"""Promises [10] and [11]: what is a size, a template, a name."""

import itertools
import string
import sys
import unittest

from gridlanes.errors import NoGrid
from gridlanes.names import is_name
from gridlanes.pages import Grid
from gridlanes.templates import high_of, is_fixed, is_size, is_template, low_of
from tests.support import Case, HUGE, all_values

FIXED = (0, 1, (1, 2), HUGE, (HUGE, 3), ("part", 0), ("part", 1), ("part", (1, 3)), ("part", 7))
SIZE_WORDS = ("least", "most", "auto")
SHARES = (("share", 0), ("share", 1), ("share", (5, 2)))
LOWS = FIXED + SIZE_WORDS
BETWEENS = tuple(("between", low, high) for low in LOWS for high in LOWS + SHARES)
UPTOS = tuple(("upto", cap) for cap in FIXED)
SIZES = LOWS + SHARES + BETWEENS + UPTOS

NO_SIZES = (
    -1, (-1, 2), (2, 4), (1, 1), (0, 2), True, False, None, "", "Auto", "part", "share", "between", "upto", "fill",
    "a", b"auto", (), [], [1], ["part", 1], ("auto",), ("least",), (5,), (1, 2, 3),
    ("part",), ("part", -1), ("part", (-1, 2)), ("part", (2, 4)), ("part", True), ("part", None), ("part", "auto"),
    ("part", 1, 1), ("part", ("part", 1)), ("part", [1, 2]), (1, "part"), ("Part", 1), (b"part", 1),
    ("share",), ("share", -1), ("share", (-1, 2)), ("share", False), ("share", "auto"), ("share", 1, 2),
    ("share", ("share", 1)), ("share", (3, 3)), ("share", None),
    ("between",), ("between", 1), ("between", 1, 2, 3), ("between", -1, 2), ("between", 1, -2), ("between", 1, True),
    ("between", True, 1), ("between", ("share", 1), 5), ("between", ("share", 1), ("share", 1)),
    ("between", ("upto", 1), 5), ("between", 5, ("upto", 1)), ("between", 1, ("between", 1, 2)),
    ("between", ("between", 1, 2), 1), ("between", "auto", ("share", -1)), ("between", "auto", ("part", -1)),
    ("between", ("part", -1), "auto"), ("between", None, "auto"), ("between", "auto", None), ["between", 1, 2],
    ("between", "auto", "a"), ("between", "a", "auto"), ("between", "auto", ()), ("between", (1, 2)),
    ("upto",), ("upto", "auto"), ("upto", "least"), ("upto", "most"), ("upto", ("share", 1)), ("upto", -1),
    ("upto", ("upto", 1)), ("upto", ("between", 1, 2)), ("upto", 1, 2), ("upto", True), ("upto", ("part", -1)),
    ("upto", None), ("upto", [1, 2]),
    ("names", ("a",)), ("names", ()), ("repeat", 2, (5,)), ("fill", (5,)), ("fit", (5,)), ("inherited", ()),
)

NAMES = ("a", "z", "a-", "a0", "a9", "az-09", "spa", "spann", "span-", "a" * 16, "m" + "-" * 15, "least", "auto")
NO_NAMES = (
    "", "span", "A", "aB", "Z", "-a", "-", "0", "1a", "9", "a" * 17, "a" * 18, "a b", " a", "a ", "a.", ".", "a_b",
    "_a", "a:b", "a\n", "\na", "\u00e4", "a\u00e4", "a\u0663", "\uff41", "a\u2010", "a\u00b2", "@", "`", "{", "a/",
    "a,", "a:", None, True, 1, 0, b"a", b"", bytearray(b"a"), ("a",), ["a"], (), {"a": 1}, {"a"}, ("a", 1),
)

# Sizes that may stand beside a fill or fit, and some that may not.
FIRM = (5, 0, (1, 2), ("part", 1), ("between", 5, ("share", 1)), ("between", ("part", 1), "auto"),
        ("between", "auto", 5), ("between", "least", ("part", (1, 2))), ("between", "most", 5), ("between", 1, 2))
LOOSE = ("auto", "least", "most", ("share", 1), ("between", "auto", "auto"), ("between", "least", "most"),
         ("between", "auto", ("share", 1)), ("between", "most", ("share", 0)), ("upto", 5), ("upto", ("part", 1)))


class SizesTest(Case):

    def check_size(self, value, is_one):
        """Check wherever a size is asked for."""
        self.assertIs(is_size(value), is_one)
        self.assertEqual(is_template((value,)), is_one or self.is_entry(value))
        if is_one:
            self.assertEqual(Grid(more_rows=(value,)).more_rows, (value,))
        else:
            self.check_raises(NoGrid, {"part": "more_rows", "index": 0}, Grid, more_rows=(value,))

    def is_entry(self, value):
        is_marked = isinstance(value, tuple) and len(value) > 0 and isinstance(value[0], str)
        return is_marked and value[0] in ("names", "repeat", "fill", "fit")

    def test_sizes(self):
        for size in SIZES:
            self.check_size(size, True)

    def test_no_sizes(self):
        for value in NO_SIZES:
            with self.subTest(value):
                self.check_size(value, False)

    def test_values_of_all_kinds(self):
        sizes = ("zero", "one", "huge", "half", "auto", "part", "share")
        for label, value in all_values().items():
            with self.subTest(label):
                self.check_size(value, label in sizes)
                self.check_size(("part", value), label in ("zero", "one", "huge", "half"))
                self.check_size(("share", value), label in ("zero", "one", "huge", "half"))
                self.check_size(("upto", value), label in ("zero", "one", "huge", "half", "part"))
                self.check_size(("between", value, 9), label in ("zero", "one", "huge", "half", "auto", "part"))
                self.check_size(("between", 9, value), label in sizes)
                self.check_size((value, 1), False)
                self.check_size((value, 9, 9), label == "between")

    def test_lows_and_highs(self):
        for size in LOWS:
            self.assertEqual((low_of(size), high_of(size)), (size, size))
        for size in SHARES:
            self.assertEqual((low_of(size), high_of(size)), ("auto", size))
        for size in BETWEENS:
            self.assertEqual((low_of(size), high_of(size)), (size[1], size[2]))
        for size in UPTOS:
            self.assertEqual((low_of(size), high_of(size)), ("auto", "most"))

    def test_what_is_fixed(self):
        for size in SIZES:
            self.assertIs(is_fixed(size), size in FIXED)


class NamesTest(Case):

    def places(self, name):
        """Templates in which a name stands."""
        return [
            (("names", (name,)),),
            (5, ("names", ("a", "b", name)), 5),
            (("repeat", 2, (5, ("names", (name,)))),),
            (("fill", (("names", (name,)), 5)),),
            (("fit", (("names", (name,)), 5)),),
            ("inherited", (("a",), (name,))),
        ]

    def test_names(self):
        for name in NAMES:
            self.assertIs(is_name(name), True)
            for template in self.places(name):
                self.assertEqual(Grid(template).columns, template)

    def test_no_names(self):
        for name in NO_NAMES:
            with self.subTest(name):
                self.assertIs(is_name(name), False)
                for template in self.places(name):
                    self.check_raises(NoGrid, {"part": "columns", "index": -1}, Grid, template)

    def test_each_sign(self):
        inner = string.ascii_lowercase + string.digits + "-"
        for code in [*range(0x500), *range(sys.maxunicode - 9, sys.maxunicode + 1)]:
            sign = chr(code)
            self.assertIs(is_name("a" + sign), sign in inner)
            self.assertIs(is_name(sign), sign in string.ascii_lowercase)

    def test_names_of_all_kinds(self):
        for label, value in all_values().items():
            with self.subTest(label):
                is_one = label in ("name", "auto", "start", "stretch", "between", "baseline", "row")
                for template in self.places(value):
                    self.assertIs(is_template(template), is_one)
                self.assertIs(is_template((("names", value),)), label in ("no tuple items", "tuple of names", "tuple of auto"))


class TemplatesTest(Case):

    def check_template(self, template, is_one):
        for axis in ("columns", "rows"):
            with self.subTest(axis=axis):
                if is_one:
                    self.assertEqual(getattr(Grid(**{axis: template}), axis), template)
                else:
                    self.check_raises(NoGrid, {"part": axis, "index": -1}, Grid, **{axis: template})

    def test_templates(self):
        for template in (
            (), (5,), ("auto", "auto"), ((1, 2),), (1, 2), ("least", 5), (("part", 1), ("share", 1)),
            (("names", ()),), (("names", ("a",)),) * 50, (("names", ("a", "a")), ("names", ("a",)), 5),
            (("names", tuple("abcdefgh") * 20),),
            (("repeat", 1, (5,)),), (("repeat", 2, (5, ("names", ("a",)), "auto")), 7, ("repeat", 3, ("auto",))),
            (("fill", (5,)),), (("fit", (5,)),), (5, ("fill", (5, ("names", ()), 7)), 8, ("repeat", 2, (5,))),
        ):
            self.check_template(template, True)

    def test_no_templates(self):
        for template in (
            [], [5], None, True, 5, "auto", "inherited", ("inherited",), ("names", ("a",)), ("part", 1), ("share", 1),
            ("upto", 5), ("between", 1, 2), ("fill", (5,)), ("repeat", 2, (5,)), (None,), (5, None), (-1,), ((),),
            (("names",),), (("names", "a"),), (("names", ["a"]),), (("names", ("a",), ("b",)),), (["names", ("a",)],),
            (("names", None),), (("Names", ("a",)),), (("names", (("a",),)),), ((5,),), (["auto"],),
        ):
            self.check_template(template, False)

    def test_templates_of_all_kinds(self):
        right = ("no tuple items", "half", "tuple of integers", "four integers", "tuple of auto", "inherited",
                 "two fourths", "one whole", "no bottom", "no top")
        for part in ("columns", "rows"):
            self.check_place(NoGrid, {"part": part, "index": -1}, lambda value: Grid(**{part: value}), right)
        self.check_place(NoGrid, {"part": "columns", "index": -1}, lambda value: Grid((5, value)),
                         ("zero", "one", "huge", "half", "auto", "part", "share"))

    def test_how_often_a_repeat(self):
        for count in (1, 2, 19, 20):
            self.check_template((("repeat", count, (5,)),), True)
        for count in (-1, 0, 21, 22, HUGE, True, False, None, "2", (1, 2), (2, 1)):
            self.check_template((("repeat", count, (5,)),), False)

    def test_what_is_repeated(self):
        right = ((5,), (5, "auto"), (("names", ("a",)), 5), (5, ("names", ())), (("upto", 5),))
        wrong = ((), (("names", ("a",)),), [5], 5, "auto", None, (None,), (5, None), (5, -1), (("repeat", 2, (5,)),),
                 (5, ("repeat", 2, (5,))), (5, ("fill", (5,))), (5, ("fit", (5,))), ("inherited", ()),
                 (5, ("inherited", ())), (5, ("names", ("A",))), (5, True))
        for entries in right:
            self.check_template((("repeat", 2, entries),), True)
        for entries in wrong:
            with self.subTest(entries):
                self.check_template((("repeat", 2, entries),), False)
                self.check_template((("fill", entries),), False)
                self.check_template((("fit", entries),), False)

    def test_entries_of_other_lengths(self):
        for entry in (("repeat",), ("repeat", 2), ("repeat", (5,)), ("repeat", 2, (5,), ()), ("repeat", 2, 5),
                      ("fill",), ("fit",), ("fill", 5), ("fit", 5), ("fill", (5,), (5,)), ("fit", 2, (5,)),
                      ["repeat", 2, (5,)], ["fill", (5,)], ("fill", [5]), ("Fill", (5,)), (b"fill", (5,))):
            with self.subTest(entry):
                self.check_template((5, entry), False)

    def test_entries_of_all_kinds(self):
        entries = ("half", "tuple of integers", "four integers", "tuple of auto", "two fourths", "one whole",
                   "no bottom", "no top")
        fixed = tuple(label for label in entries if label != "tuple of auto")
        fields = {"part": "rows", "index": -1}
        self.check_place(NoGrid, fields, lambda value: Grid(rows=(("repeat", 2, value),)), entries)
        self.check_place(NoGrid, fields, lambda value: Grid(rows=(("repeat", value, (5,)),)), ("one",))
        self.check_place(NoGrid, fields, lambda value: Grid(rows=(("fill", value),)), fixed)
        self.check_place(NoGrid, fields, lambda value: Grid(rows=(("fit", value),)), fixed)

    def test_how_many_sizes(self):
        for many in (0, 1, 39, 40):
            self.check_template((5,) * many, True)
            self.check_template((5, ("names", ("a",))) * many, True)
        for many in (41, 42, 200):
            self.check_template((5,) * many, False)

    def test_sizes_of_repeats_count_written_out(self):
        for template, is_one in (
            ((("repeat", 20, (5, 6)),), True),
            ((("repeat", 20, (5, 6)), 5), False),
            ((("repeat", 20, (5, 6)), ("names", ("a",))), True),
            ((("repeat", 20, (5, ("names", ("a",)), 6)),), True),
            ((("repeat", 20, (5, 6, 7)),), False),
            ((("repeat", 13, (5, 6, 7)), 5), True),
            ((("repeat", 13, (5, 6, 7)), 5, 5), False),
            ((("repeat", 1, (5,) * 40),), True),
            ((("repeat", 1, (5,) * 41),), False),
            ((("repeat", 20, (5,)), ("repeat", 20, (5,))), True),
            ((("repeat", 20, (5,)), ("repeat", 20, (5,)), ("repeat", 1, (5,))), False),
        ):
            self.check_template(template, is_one)

    def test_sizes_of_a_fill_count_once(self):
        for word in ("fill", "fit"):
            for others, filled, is_one in ((39, 1, True), (40, 1, False), (38, 2, True), (39, 2, False),
                                           (0, 40, True), (0, 41, False)):
                self.check_template((5,) * others + ((word, (5,) * filled),), is_one)
            self.check_template((("repeat", 19, (5, 6)), (word, (5, 6))), True)
            self.check_template((("repeat", 19, (5, 6)), (word, (5, 6)), 5), False)
            self.check_template((("repeat", 20, (5, 6)), (word, (5,))), False)

    def test_one_fill_or_fit_at_most(self):
        for one, other in itertools.product(("fill", "fit"), repeat=2):
            self.check_template(((one, (5,)), (other, (5,))), False)
            self.check_template((5, (one, (5,)), 6, (other, (7,)), 8), False)

    def test_sizes_beside_a_fill(self):
        for word in ("fill", "fit"):
            for sizes, is_one in ((FIRM, True), (LOOSE, False)):
                for size in sizes:
                    with self.subTest(word=word, size=size):
                        self.check_template(((word, (size,)),), is_one)
                        self.check_template(((word, (5, size)),), is_one)
                        self.check_template((size, (word, (5,))), is_one)
                        self.check_template(((word, (5,)), 5, size), is_one)
                        self.check_template((("repeat", 2, (5, size)), (word, (5,))), is_one)
                        self.check_template((size, size), True)
                        self.check_template((("repeat", 2, (5, size)),), True)

    def test_loose_sizes_of_the_other_axis_and_of_further_lanes(self):
        for size in LOOSE:
            grid = Grid((("fill", (5,)),), (size,), more_columns=(size,), more_rows=(size,))
            self.assertEqual((grid.rows, grid.more_columns), ((size,), (size,)))

    def test_inherited(self):
        for names in ((), ((),), (("a",),), ((), ("a", "b"), ()), ((),) * 39, (("a",),) * 40, (("a",) * 90,)):
            self.check_template(("inherited", names), True)
        for names in (((),) * 41, (("a",),) * 42, "a", ("a",), [], [()], None, ([],), (("a",), None), (("span",),),
                      (("A",),), (((),),), ((), 5), 5, ((1, 2),)):
            with self.subTest(names):
                self.check_template(("inherited", names), False)
        for template in (("inherited", (), ()), ["inherited", ()], (("inherited", ()),), (5, ("inherited", ())),
                         ("Inherited", ()), (b"inherited", ()), ("inherited", (), 5)):
            with self.subTest(template):
                self.check_template(template, False)

    def test_inherited_of_all_kinds(self):
        fields = {"part": "columns", "index": -1}
        self.check_place(NoGrid, fields, lambda value: Grid(("inherited", value)),
                         ("no tuple items", "tuple of a tuple"))
        self.check_place(NoGrid, fields, lambda value: Grid(("inherited", (value,))),
                         ("no tuple items", "tuple of names", "tuple of auto"))
        self.check_place(NoGrid, fields, lambda value: Grid((value, ())), ())


if __name__ == "__main__":
    unittest.main()
