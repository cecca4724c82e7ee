"""Promises [30], [31], [32] and [33]: what an item asks of its lanes."""

import itertools
import random
import unittest
from fractions import Fraction

from gridlanes.contents import Block, Words, height_in
from gridlanes.contributions import contributions
from gridlanes.errors import NoAxis, NoItem, NoNumber, NoSizes
from gridlanes.pages import Grid, Item, Page
from gridlanes.reckoning import is_length
from tests.support import Case, HUGE, all_values

WORDS = Words((30, 20), 5, 12, 9)
HALF = (1, 2)
AUTO = ("auto",)


def share(k):
    return ("share", k)


def between(low, high):
    return ("between", low, high)


def part(k):
    return ("part", k)


def fraction(number):
    return Fraction(*number) if isinstance(number, tuple) else Fraction(number)


def number(value):
    return value.numerator if value.denominator == 1 else (value.numerator, value.denominator)


def lows_and_highs(size, whole):
    """Return (low, high, cap): Fractions if they are fixed, words, "share"; None for no cap."""
    def bound(value):
        if isinstance(value, str):
            return value
        if isinstance(value, tuple) and value[0] == "part":
            return "auto" if whole is None else fraction(value[1]) * fraction(whole)
        if isinstance(value, tuple) and value[0] == "share":
            return "share"
        return fraction(value)
    if isinstance(size, tuple) and size[0] == "between":
        return (bound(size[1]), bound(size[2]), None)
    if isinstance(size, tuple) and size[0] == "upto":
        cap = bound(size[1])
        return ("auto", "most", None if cap == "auto" else cap)
    if bound(size) == "share":
        return ("auto", "share", None)
    return (bound(size), bound(size), None)


def literal(own, size, least, greatest, margins, sizes, gap, whole):
    """The five contributions, as the document tells them, of Fractions and None."""
    bounds = [lows_and_highs(lane, whole) for lane in sizes]
    gaps = (len(bounds) - 1) * gap

    def outer(value):
        return max(value + margins, Fraction(0))

    def hold(value):
        value = value if greatest is None else min(value, greatest)
        return value if least is None else max(value, least)
    least_one = outer(hold(own[0] if size is None else size))
    most_one = outer(hold(own[1] if size is None else size))
    automatic = Fraction(0)
    if any(low == "auto" for low, _, _ in bounds):
        if len(bounds) == 1 or not any(high == "share" for _, high, _ in bounds):
            automatic = own[0] if greatest is None else min(own[0], greatest)
            if all(isinstance(high, Fraction) for _, high, _ in bounds):
                automatic = min(automatic, max(Fraction(0), sum(high for _, high, _ in bounds) + gaps - margins))
    if size is not None:
        minimum = least_one
    else:
        minimum = outer(automatic if least is None else least)
    tops = [cap if high == "most" and cap is not None else high for _, high, cap in bounds]
    found = [least_one, most_one, minimum, least_one, most_one]
    if all(isinstance(top, Fraction) for top in tops):
        found[3] = max(min(least_one, sum(tops) + gaps), minimum)
        found[4] = max(min(most_one, sum(tops) + gaps), minimum)
    return tuple(number(value) for value in found)


class ContributionsTest(Case):

    def check(self, item, sizes, due, gap=0, axis="column", **named):
        self.check_numbers(contributions(item, axis, sizes, gap, **named), due)

    def test_the_example(self):
        item = Item(WORDS, margins=(0, 1, 0, 1))
        self.check(item, AUTO, (32, 57, 32, 32, 57))
        self.check(item, (share(1), 10), (32, 57, 2, 32, 57), 4)
        self.check(item, (between("auto", 12), 10), (32, 57, 26, 26, 26), 4)
        self.check(item, AUTO, (24, 24, 24, 24, 24), 0, "row", inner=54)

    def test_own_sizes(self):
        self.check(Item(WORDS), AUTO, (30, 55, 30, 30, 55))
        self.check(Item(Words((), 1, 2, 3)), AUTO, (0, 0, 0, 0, 0))
        self.check(Item(Block((7, 2), 9)), AUTO, ((7, 2), (7, 2), (7, 2), (7, 2), (7, 2)))
        self.check(Item(Block(7, 9)), AUTO, (9, 9, 9, 9, 9), 0, "row", inner=0)
        self.check(Item(WORDS), AUTO, (12, 12, 12, 12, 12), 0, "row", inner=55)
        self.check(Item(WORDS), AUTO, (24, 24, 24, 24, 24), 0, "row", inner=(109, 2))

    def test_margins_of_the_axis(self):
        item = Item(Block(10, 20), margins=(1, 2, 4, 8))
        self.check(item, AUTO, (20,) * 5)
        self.check(item, AUTO, (25,) * 5, 0, "row", inner=1)

    def test_margins_below_0(self):
        item = Item(WORDS, margins=(0, -40, 0, (-1, 2)))
        self.check(item, AUTO, (0, (29, 2), 0, 0, (29, 2)))
        self.check(Item(WORDS, margins=(0, -60, 0, 0)), AUTO, (0,) * 5)
        self.check(Item(WORDS, margins=(0, -50, 0, 70)), AUTO, (50, 75, 50, 50, 75))
        self.check(Item(Block(5, 5), margins=(-7, 0, 1, 0)), AUTO, (0,) * 5, 0, "row", inner=5)

    def test_a_size(self):
        self.check(Item(WORDS, width=40), AUTO, (40,) * 5)
        self.check(Item(WORDS, width=0, margins=(0, 3, 0, 4)), AUTO, (7,) * 5)
        self.check(Item(WORDS, width=40, height=3), AUTO, (3,) * 5, 0, "row", inner=9)
        self.check(Item(WORDS, width=40), (share(1), 10), (40,) * 5)
        self.check(Item(WORDS, width=40), (10,), (40,) * 5)
        self.check(Item(WORDS, width=40, greatest_width=35), AUTO, (35,) * 5)
        self.check(Item(WORDS, width=40, least_width=45), AUTO, (45,) * 5)
        self.check(Item(WORDS, width=40, least_width=45, greatest_width=35), AUTO, (45,) * 5)

    def test_least_and_greatest_sizes(self):
        self.check(Item(WORDS, least_width=40), AUTO, (40, 55, 40, 40, 55))
        self.check(Item(WORDS, least_width=70), AUTO, (70, 70, 70, 70, 70))
        self.check(Item(WORDS, least_width=10), AUTO, (30, 55, 10, 30, 55))
        self.check(Item(WORDS, greatest_width=40), AUTO, (30, 40, 30, 30, 40))
        self.check(Item(WORDS, greatest_width=20), AUTO, (20, 20, 20, 20, 20))
        self.check(Item(WORDS, least_width=40, greatest_width=20), AUTO, (40, 40, 40, 40, 40))
        self.check(Item(WORDS, least_width=10, greatest_width=20), AUTO, (20, 20, 10, 20, 20))
        self.check(Item(WORDS, least_height=20, greatest_height=22), AUTO, (22, 22, 20, 22, 22), 0, "row", inner=1)
        self.check(Item(WORDS, least_height=20, greatest_height=22), AUTO, (30, 55, 30, 30, 55))

    def test_the_automatic_least_size(self):
        for sizes, least in (((10,), 0), (("least",), 0), (("most",), 0), (AUTO, 30), ((share(1),), 30),
                             ((between("auto", share(1)),), 30), ((between(5, share(1)),), 0), ((("upto", 9),), 30),
                             ((between("auto", "least"),), 30), ((between("least", "auto"),), 0),
                             (("auto", 10), 30), ((10, 10), 0), (("auto", share(1)), 0), ((share(1), share(1)), 0),
                             (("auto", between(5, share(0))), 0), ((between("auto", "most"), "least"), 30)):
            with self.subTest(sizes):
                self.assertEqual(contributions(Item(WORDS), "column", sizes, 0)[2], least)
                self.assertEqual(contributions(Item(WORDS, greatest_width=28), "column", sizes, 0)[2], min(28, least))

    def test_lanes_with_fixed_highs(self):
        self.check(Item(WORDS), (between("auto", 20),), (30, 55, 20, 20, 20))
        self.check(Item(WORDS), (between("auto", 40),), (30, 55, 30, 30, 40))
        self.check(Item(WORDS), (between("auto", 70),), (30, 55, 30, 30, 55))
        self.check(Item(WORDS), (between("auto", 9), between("auto", 8)), (30, 55, 22, 22, 22), 5)
        self.check(Item(WORDS, margins=(0, 3, 0, 4)), (between("auto", 20),), (37, 62, 20, 20, 20))
        self.check(Item(WORDS, margins=(0, 13, 0, 14)), (between("auto", 20),), (57, 82, 27, 27, 27))
        self.check(Item(WORDS, margins=(0, -3, 0, -4)), (between("auto", 20),), (23, 48, 20, 20, 20))
        self.check(Item(WORDS), (10,), (30, 55, 0, 10, 10))
        self.check(Item(WORDS, least_width=20), (10,), (30, 55, 20, 20, 20))
        self.check(Item(WORDS), (between(40, 10),), (30, 55, 0, 10, 10))
        self.check(Item(WORDS, greatest_width=18), (between("auto", 20),), (18, 18, 18, 18, 18))

    def test_one_high_that_is_not_fixed(self):
        for other in ("auto", "most", "least", share(1)):
            self.check(Item(WORDS), (between("least", 5), between("least", other)), (30, 55, 0, 30, 55))
        self.check(Item(WORDS), (between("auto", 5), "auto"), (30, 55, 30, 30, 55))

    def test_caps(self):
        self.check(Item(WORDS), (("upto", 40),), (30, 55, 30, 30, 40))
        self.check(Item(WORDS), (("upto", 20),), (30, 55, 30, 30, 30))
        self.check(Item(WORDS), (("upto", 70),), (30, 55, 30, 30, 55))
        self.check(Item(WORDS), (("upto", 20), 15), (30, 55, 30, 30, 38), 3)
        self.check(Item(WORDS), (("upto", 20), "auto"), (30, 55, 30, 30, 55), 3)

    def test_parts(self):
        self.check(Item(WORDS), (part(HALF),), (30, 55, 30, 30, 55))
        self.check(Item(WORDS), (part(HALF),), (30, 55, 0, 20, 20), whole=40)
        self.check(Item(WORDS), (between("auto", part(HALF)),), (30, 55, 30, 30, 55))
        self.check(Item(WORDS), (between("auto", part(HALF)),), (30, 55, 20, 20, 20), whole=40)
        self.check(Item(WORDS), (between(part(HALF), 20),), (30, 55, 20, 20, 20))
        self.check(Item(WORDS), (between(part(HALF), 20),), (30, 55, 0, 20, 20), whole=0)
        self.check(Item(WORDS), (("upto", part(HALF)),), (30, 55, 30, 30, 55))
        self.check(Item(WORDS), (("upto", part(HALF)),), (30, 55, 30, 30, 40), whole=80)
        self.check(Item(WORDS), (part(0),), (30, 55, 0, 0, 0), whole=80)

    def test_own_handed_in(self):
        page = Item(Page(Grid()), margins=(1, 0, 0, 4))
        self.check(page, AUTO, (14, 24, 14, 14, 24), own=(10, 20))
        self.check(page, AUTO, (11, 21, 11, 11, 21), 0, "row", own=(10, 20))
        self.check(Item(WORDS), AUTO, (1, HALF, 1, 1, HALF), own=(1, HALF))
        self.check(Item(WORDS, greatest_width=5), AUTO, (3, 5, 3, 3, 5), own=(3, 9))
        self.check(Item(WORDS), AUTO, (8, 8, 8, 8, 8), 0, "row", own=(8, 8), inner=5)

    def test_many_lanes(self):
        found = contributions(Item(Block(500, 1)), "column", (between("auto", 1),) * 80, HALF)
        self.check_numbers(found, (500, 500, (239, 2), (239, 2), (239, 2)))

    def test_against_the_words_of_the_document(self):
        rng = random.Random(33)
        numbers = (0, 3, 10, 25, 40, HALF, (45, 2), 60)
        for _ in range(4000):
            whole = rng.choice((None, None, 30, (95, 3)))
            plain = (*numbers, part(HALF), part(1), "auto", "auto", "least", "most")
            sizes = tuple(rng.choice((
                rng.choice(plain), share(rng.choice((0, 1))), ("upto", rng.choice((*numbers, part(HALF)))),
                between(rng.choice(plain), rng.choice((*plain, share(1)))),
            )) for _ in range(rng.choice((1, 1, 2, 3))))
            gap = rng.choice((0, 2, HALF))
            told = [rng.choice((None, None, None, *numbers)) for _ in range(3)]
            margins = rng.choice((0, 0, 5, -7)), rng.choice((0, 0, (3, 2), -30))
            own = (rng.choice(numbers), rng.choice(numbers))
            due = literal([fraction(k) for k in own], *[None if k is None else fraction(k) for k in told],
                          sum(fraction(k) for k in margins), sizes, fraction(gap), whole)
            item = Item(WORDS, width=told[0], least_width=told[1], greatest_width=told[2],
                        margins=(1, margins[0], 1, margins[1]))
            self.check(item, sizes, due, gap, whole=whole, own=own)
            item = Item(WORDS, height=told[0], least_height=told[1], greatest_height=told[2],
                        margins=(margins[0], 1, margins[1], 1))
            self.check(item, sizes, due, gap, "row", whole=whole, own=own)

    def test_rows_by_the_width_of_the_content(self):
        for inner in (0, 29, 30, 54, (109, 2), 55, 56, HUGE):
            height = height_in(WORDS, inner)
            self.check(Item(WORDS), AUTO, (height,) * 5, 0, "row", inner=inner)

    def test_the_inner_width_has_no_effect_on_columns(self):
        self.check(Item(WORDS), AUTO, (30, 55, 30, 30, 55), inner=5)


class ErrorsTest(Case):

    def call(self, **named):
        given = {"item": Item(WORDS), "axis": "column", "sizes": AUTO, "gap": 0}
        return contributions(**{**given, **named})

    def check_part(self, kind, fields, name, right, **named):
        self.check_place(kind, fields, lambda value: self.call(**{name: value}, **named), right)

    def test_each_argument(self):
        numbers = [label for label, value in all_values().items() if is_length(value)]
        self.check_part(NoItem, {"part": "item"}, "item", ("item",))
        self.check_part(NoAxis, {}, "axis", ("row",), inner=5)
        self.check_part(NoNumber, {"part": "gap"}, "gap", numbers)
        self.check_part(NoNumber, {"part": "whole"}, "whole", [*numbers, "none"])
        self.check_part(NoNumber, {"part": "inner"}, "inner", [*numbers, "none"])
        self.check_part(NoNumber, {"part": "inner"}, "inner", numbers, axis="row")
        self.check_part(NoNumber, {"part": "inner"}, "inner", [*numbers, "none"], axis="row", own=(1, 1))
        self.check_part(NoNumber, {"part": "own"}, "own", ("none", "half", "two fourths", "one whole", "no top",
                                                                 "no bottom"))

    def test_sizes(self):
        for label, value in all_values().items():
            with self.subTest(label):
                if isinstance(value, tuple) and len(value) > 0:
                    continue
                self.check_raises(NoSizes, {"index": -1}, self.call, sizes=value)
        for at, many in itertools.product(range(4), (4, 70)):
            def with_size(value):
                return self.call(sizes=("auto",) * at + (value,) + ("auto",) * (many - at - 1))
            self.check_place(NoSizes, {"index": at}, with_size, ("zero", "one", "huge", "half", "auto", "part", "share"))
            for value in (-1, ("upto", "auto"), between("auto", ("upto", 5)), between(share(1), 5), ("names", ()), True,
                          ("repeat", 2, (5,)), ("part", -1), ("share", (-1, 2)), ("fill", (5,)), (2, 4), None):
                self.check_raises(NoSizes, {"index": at}, with_size, value)
        self.check_raises(NoSizes, {"index": 1}, self.call, sizes=(5, None, -1))
        self.check_raises(NoSizes, {"index": -1}, self.call, sizes=["auto"])

    def test_items_of_sizes_of_all_kinds(self):
        for at in (0, 1):
            def with_own(value):
                return self.call(own=(value, 1) if at == 0 else (1, value))
            self.check_place(NoNumber, {"part": "own"}, with_own, ("zero", "one", "huge", "half"))
        for own in ((1,), (1, 2, 3), [1, 2], (-1, 2), (1, -2), 5, (1, True), ((2, 4), 1)):
            self.check_raises(NoNumber, {"part": "own"}, self.call, own=own)

    def test_a_page_needs_its_own_sizes(self):
        item = Item(Page(Grid()))
        self.check_raises(NoItem, {"part": "content"}, self.call, item=item)
        self.check_raises(NoItem, {"part": "content"}, self.call, item=item, axis="row", inner=5)
        self.check_raises(NoNumber, {"part": "inner"}, self.call, item=item, axis="row")
        self.check_raises(NoNumber, {"part": "own"}, self.call, item=item, own=5)
        self.assertEqual(self.call(item=item, own=(1, 2)), (1, 2, 1, 1, 2))

    def test_the_inner_width_comes_ahead_of_own(self):
        self.check_raises(NoNumber, {"part": "inner"}, self.call, axis="row", inner=-1, own=5)
        self.check_raises(NoNumber, {"part": "own"}, self.call, axis="row", own=5)

    def test_the_first_one(self):
        wrong = [("item", None, NoItem, {"part": "item"}), ("axis", None, NoAxis, {}), ("sizes", (), NoSizes, {"index": -1}),
                 ("gap", None, NoNumber, {"part": "gap"}), ("whole", -1, NoNumber, {"part": "whole"}),
                 ("inner", -1, NoNumber, {"part": "inner"}), ("own", 0, NoNumber, {"part": "own"})]
        for at, (_, _, kind, fields) in enumerate(wrong):
            self.check_raises(kind, fields, self.call, **{name: value for name, value, _, _ in wrong[at:]})
        for one, other in itertools.combinations(wrong, 2):
            self.check_raises(one[2], one[3], self.call, **{one[0]: one[1], other[0]: other[1]})

    def test_keyword_only(self):
        with self.assertRaises(TypeError):
            contributions(Item(WORDS), "column", AUTO, 0, None)
        self.assertIsInstance(self.call(), tuple)


if __name__ == "__main__":
    unittest.main()
