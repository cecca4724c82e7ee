"""Promises [6], [7] and [8], and what [2], [3] and [5] say of them."""

import inspect
import itertools
import unittest
from fractions import Fraction

from gridlanes import contents
from gridlanes.contents import Block, Words, height_in, least_width, lines_in, most_width
from gridlanes.errors import NoContent, NoNumber
from tests.support import Case, HUGE, all_values, own_values, raised

LENGTHS = ("zero", "one", "huge", "half")


def fraction(number):
    return Fraction(*number) if isinstance(number, tuple) else Fraction(number)


def number(value):
    return value.numerator if value.denominator == 1 else (value.numerator, value.denominator)


def told_lines(widths, blank, width):
    """Lines as [7] tells them, each as the list of its words."""
    lines = []
    for index, word in enumerate(widths):
        if lines:
            line = [*lines[-1], index]
            if sum(widths[k] for k in line) + blank * (len(line) - 1) <= width:
                lines[-1] = line
                continue
        lines.append([index])
    return [(line[0], line[-1] + 1) for line in lines]


class WordsTest(Case):

    def test_attributes(self):
        words = Words([30, (25, 2)], 5, 12, (9, 2))
        self.assertEqual(vars(words), {"widths": (30, (25, 2)), "blank": 5, "line": 12, "base": (9, 2)})
        self.assertIsInstance(words.widths, tuple)
        self.assertEqual(Words((), 0, 0, 0).widths, ())

    def test_arguments_by_name(self):
        self.assertEqual(Words(base=9, line=12, blank=5, widths=(3,)), Words((3,), 5, 12, 9))
        names = list(inspect.signature(Words).parameters)
        self.assertEqual(names, ["widths", "blank", "line", "base"])

    def test_a_base_below_the_line_is_allowed(self):
        self.assertEqual(Words((1,), 0, 3, 8).base, 8)

    def test_later_changes_of_the_list_have_no_effect(self):
        widths = [10, 20]
        words = Words(widths, 1, 2, 1)
        widths.append(30)
        widths[0] = None
        self.assertEqual(words.widths, (10, 20))
        self.assertEqual(most_width(words), 31)

    def test_the_list_is_not_changed(self):
        widths = [10, (1, 2)]
        Words(widths, 1, 2, 1)
        self.assertEqual(widths, [10, (1, 2)])

    def test_how_many_words(self):
        for kind in (list, tuple):
            for many in (0, 1, 19, 20):
                self.assertEqual(len(Words(kind([3] * many), 1, 2, 1).widths), many)
            for many in (21, 22, 1000):
                self.check_raises(NoContent, {"part": "widths", "index": -1}, Words, kind([3] * many), 1, 2, 1)
                self.check_raises(NoContent, {"part": "widths", "index": -1}, Words, kind([None] * many), 1, 2, 1)

    def test_each_word(self):
        for many in (1, 2, 20):
            for index in range(many):
                def with_word(value):
                    return Words([3] * index + [value] + [3] * (many - index - 1), 1, 2, 1)
                self.check_place(NoContent, {"part": "widths", "index": index}, with_word, LENGTHS)

    def test_the_first_wrong_word(self):
        self.check_raises(NoContent, {"part": "widths", "index": 1}, Words, (1, -1, 2, None), None, -1, True)
        self.check_raises(NoContent, {"part": "widths", "index": 0}, Words, [True, False], 1, 1, 1)

    def test_widths_of_all_kinds(self):
        right = ("no tuple items", "no list items", "list of integers", "tuple of integers", "half",
                 "four integers", "one whole", "two fourths", "no bottom", "no top")
        later = {"bottom below": 1, "bool below": 1, "list of six": 5}
        for label, value in all_values().items():
            with self.subTest(label):
                index = later.get(label, 0) if isinstance(value, (list, tuple)) else -1
                due = None if label in right else (NoContent, {"part": "widths", "index": index})
                self.assertEqual(raised(Words, value, 1, 2, 1), due)

    def test_each_other_parameter(self):
        for part in ("blank", "line", "base"):
            def with_part(value):
                return Words((3,), **{"blank": 1, "line": 2, "base": 1, part: value})
            self.check_place(NoContent, {"part": part, "index": -1}, with_part, LENGTHS)

    def test_the_first_wrong_parameter(self):
        parts = ("widths", "blank", "line", "base")
        for wrong in itertools.product((False, True), repeat=4):
            given = [None if is_wrong else right for is_wrong, right in zip(wrong, ((1,), 1, 2, 1))]
            if True in wrong:
                first = parts[wrong.index(True)]
                self.check_raises(NoContent, {"part": first, "index": -1}, Words, *given)

    def test_equal_just_if_all_attributes_are(self):
        words = Words((1, (3, 2)), 5, 12, 9)
        self.assertTrue(words == Words([1, (3, 2)], 5, 12, 9))
        self.assertFalse(words != Words([1, (3, 2)], 5, 12, 9))
        for other in (Words((1,), 5, 12, 9), Words(((3, 2), 1), 5, 12, 9), Words((1, (3, 2)), (5, 2), 12, 9),
                      Words((1, (3, 2)), 5, 13, 9), Words((1, (3, 2)), 5, 12, 0)):
            self.assertFalse(words == other)
            self.assertTrue(words != other)


class BlockTest(Case):

    def test_attributes(self):
        self.assertEqual(vars(Block(30, (9, 2))), {"width": 30, "height": (9, 2)})
        self.assertEqual(Block(height=2, width=1), Block(1, 2))
        self.assertEqual(list(inspect.signature(Block).parameters), ["width", "height"])

    def test_each_parameter(self):
        self.check_place(NoContent, {"part": "width", "index": -1}, lambda value: Block(value, 2), LENGTHS)
        self.check_place(NoContent, {"part": "height", "index": -1}, lambda value: Block(2, value), LENGTHS)

    def test_the_first_wrong_parameter(self):
        self.check_raises(NoContent, {"part": "width", "index": -1}, Block, -1, True)
        self.check_raises(NoContent, {"part": "width", "index": -1}, Block, height=None, width=None)

    def test_equal_just_if_all_attributes_are(self):
        self.assertTrue(Block(1, 2) == Block(1, 2))
        self.assertFalse(Block(1, 2) == Block(2, 2))
        self.assertFalse(Block(1, 2) == Block(1, 1))
        self.assertTrue(Block(1, 2) != Block(1, (1, 2)))


class KindsTest(Case):

    def test_words_and_blocks_are_equal_to_nothing_of_another_kind(self):
        for one in (Words((), 0, 0, 0), Block(0, 0), Words((3,), 1, 2, 1), Block(1, 2)):
            for label, value in all_values().items():
                if one.__class__ != value.__class__:
                    self.assertFalse(one == value, label)
                    self.assertTrue(one != value, label)

    def test_defined_in_the_file_and_in_the_class(self):
        for name in ("Words", "Block", "least_width", "most_width", "lines_in", "height_in"):
            self.assertEqual(getattr(contents, name).__module__, "gridlanes.contents")
        for kind in (Words, Block):
            self.assertTrue("__init__" in vars(kind) and "__eq__" in vars(kind))


class WidthsTest(Case):

    def test_no_words(self):
        words = Words((), 5, 12, 9)
        self.check_numbers([least_width(words), most_width(words)], [0, 0])
        for width in (0, 1, (1, 2), HUGE):
            self.check_numbers([lines_in(words, width), height_in(words, width)], [[], 0])

    def test_one_word(self):
        words = Words(((25, 2),), 5, 12, 9)
        self.check_numbers([least_width(words), most_width(words)], [(25, 2), (25, 2)])
        for width in (0, 12, (25, 2), 13):
            self.check_numbers([lines_in(words, width), height_in(words, width)], [[(0, 1)], 12])

    def test_a_block(self):
        block = Block((7, 2), 8)
        self.check_numbers([least_width(block), most_width(block)], [(7, 2), (7, 2)])
        for width in (0, (1, 2), 100):
            self.check_numbers(height_in(block, width), 8)

    def test_the_widest_word_may_stand_anywhere(self):
        for widths in itertools.permutations((1, (5, 2), 2, (7, 3))):
            self.check_numbers(least_width(Words(widths, 9, 1, 1)), (5, 2))

    def test_whole_sums_are_integers(self):
        words = Words(((1, 2), (1, 2), (1, 3)), (1, 3), (3, 2), 0)
        self.check_numbers(most_width(words), 2)
        self.check_numbers(most_width(Words(((1, 2), 1), (1, 4), 1, 0)), (7, 4))
        self.check_numbers(height_in(words, (1, 2)), (9, 2))
        self.check_numbers(height_in(words, (4, 3)), 3)
        self.check_numbers(height_in(words, 2), (3, 2))

    def test_just_wide_enough(self):
        words = Words((30, 20, (25, 2)), 5, 12, 9)
        self.assertEqual(lines_in(words, (109, 2)), [(0, 1), (1, 3)])
        self.assertEqual(lines_in(words, 55), [(0, 2), (2, 3)])
        self.assertEqual(lines_in(words, (145, 2)), [(0, 3)])
        self.assertEqual(lines_in(words, (289, 4)), [(0, 2), (2, 3)])
        self.assertEqual(lines_in(words, (75, 2)), [(0, 1), (1, 3)])
        self.assertEqual(lines_in(words, 0), [(0, 1), (1, 2), (2, 3)])

    def test_a_word_wider_than_the_width_has_a_line(self):
        words = Words((5, 50, 5, 5), 1, 10, 0)
        self.assertEqual(lines_in(words, 11), [(0, 1), (1, 2), (2, 4)])
        self.assertEqual(height_in(words, 11), 30)

    def test_words_and_blanks_of_no_width(self):
        words = Words((0, 0, 0), 0, 10, 0)
        self.assertEqual(lines_in(words, 0), [(0, 3)])
        words = Words((0, 0, 0), 1, 10, 0)
        self.assertEqual(lines_in(words, 0), [(0, 1), (1, 2), (2, 3)])
        self.assertEqual(lines_in(words, 1), [(0, 2), (2, 3)])
        self.assertEqual(lines_in(Words((0, 4), 1, 10, 0), 4), [(0, 1), (1, 2)])
        self.assertEqual(height_in(Words((1, 2), 1, 0, 0), 0), 0)

    def test_twenty_words(self):
        words = Words(range_of_lengths(20), (1, 3), 2, 1)
        self.assertEqual(len(lines_in(words, 0)), 20)
        self.assertEqual(lines_in(words, HUGE), [(0, 20)])

    def test_against_the_words_of_the_document(self):
        lengths = (0, 1, (3, 2), 4)
        for many in range(5):
            for widths in itertools.product(lengths, repeat=many):
                for blank in (0, (1, 2), 2):
                    self.check_words(widths, blank)

    def check_words(self, widths, blank):
        words = Words(widths, blank, (5, 2), 1)
        told = [fraction(width) for width in widths]
        most = sum(told) + fraction(blank) * max(0, len(told) - 1)
        self.check_numbers(least_width(words), number(max([Fraction(0), *told])))
        self.check_numbers(most_width(words), number(most))
        for width in (0, 1, (5, 2), 3, (7, 2), 6):
            lines = told_lines(told, fraction(blank), fraction(width))
            self.check_numbers(lines_in(words, width), lines)
            self.check_numbers(height_in(words, width), number(len(lines) * Fraction(5, 2)))

    def test_returned_lists_are_new(self):
        words = Words((30, 20), 5, 12, 9)
        lines_in(words, 20).append(None)
        self.assertEqual(lines_in(words, 20), [(0, 1), (1, 2)])
        self.assertIsNot(lines_in(words, 20), lines_in(words, 20))
        self.assertEqual(words, Words((30, 20), 5, 12, 9))


def range_of_lengths(many):
    return [(2 * k + 1, 2) for k in range(many)]


class ErrorsTest(Case):

    def test_content(self):
        for call in (least_width, most_width, lambda value: height_in(value, 5)):
            self.check_place(NoContent, {"part": "content", "index": -1}, call, ("words", "block"))

        def lines(value):
            return lines_in(value, 5)
        self.check_place(NoContent, {"part": "content", "index": -1}, lines, ("words",))

    def test_width(self):
        words = own_values()["words"]
        self.check_place(NoNumber, {"part": "width"}, lambda value: lines_in(words, value), LENGTHS)
        for content in (words, Block(1, 2), Words((), 0, 0, 0)):
            self.check_place(NoNumber, {"part": "width"}, lambda value: height_in(content, value), LENGTHS)

    def test_the_content_comes_first(self):
        fields = {"part": "content", "index": -1}
        self.check_raises(NoContent, fields, lines_in, Block(1, 2), -1)
        self.check_raises(NoContent, fields, lines_in, None, None)
        self.check_raises(NoContent, fields, height_in, width=True, content=True)

    def test_arguments_by_name(self):
        words = Words((3, 4), 1, 2, 1)
        self.assertEqual(least_width(content=words), 4)
        self.assertEqual(most_width(content=words), 8)
        self.assertEqual(lines_in(width=7, content=words), [(0, 1), (1, 2)])
        self.assertEqual(height_in(width=8, content=words), 2)


if __name__ == "__main__":
    unittest.main()
