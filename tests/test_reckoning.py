"""Promise [5]: NUMBERS and LENGTHS, and exact reckoning with them."""

import unittest
from fractions import Fraction

from gridlanes.reckoning import (at_most, greater, is_length, is_more, is_number, lesser, minus, number_of, over, plus,
                                 times, total, with_gaps)
from tests.support import Case, HUGE, all_values

NUMBERS = (0, 1, -1, 2, 7, -12, (1, 2), (-1, 2), (3, 2), (-3, 2), (2, 3), (-5, 6), (25, 2), (1, 12), HUGE,
           (HUGE, 3), (-HUGE, 7))


def fraction(number):
    return Fraction(*number) if isinstance(number, tuple) else Fraction(number)


def number(value):
    return value.numerator if value.denominator == 1 else (value.numerator, value.denominator)


class NumbersTest(Case):

    def test_what_is_a_number(self):
        for value in NUMBERS:
            self.assertIs(is_number(value), True)

    def test_what_is_none(self):
        numbers = ("zero", "one", "minus one", "huge", "minus huge", "half", "minus half")
        values = all_values()
        for label in values:
            with self.subTest(label):
                self.assertIs(is_number(values[label]), label in numbers)

    def test_bottoms(self):
        for bottom in (-3, -2, -1, 0, 1):
            self.assertIs(is_number((1, bottom)), False)
        self.assertIs(is_number((1, 2)), True)
        for value in ((2, 4), (-2, 4), (6, 3), (0, 2), (4, 6), (9, 6), (1, 2, 3), (1,), (1, True), (True, 2), ((1,), 2),
                      (1, None), (1, "a"), (1, (2,)), (None, 2), ("a", 2)):
            self.assertIs(is_number(value), False)

    def test_lengths_begin_at_zero(self):
        for value in NUMBERS:
            self.assertIs(is_length(value), fraction(value) >= 0)
        for value in (True, False, None, "1", [1, 2], (2, 4)):
            self.assertIs(is_length(value), False)

    def test_reckoning_is_exact(self):
        for one in NUMBERS:
            for other in NUMBERS:
                self.check_numbers(plus(one, other), number(fraction(one) + fraction(other)))
                self.check_numbers(times(one, other), number(fraction(one) * fraction(other)))
                self.check_numbers(minus(one, other), number(fraction(one) - fraction(other)))
                self.check_numbers(lesser(one, other), number(min(fraction(one), fraction(other))))
                self.check_numbers(greater(one, other), number(max(fraction(one), fraction(other))))
                self.assertIs(at_most(one, other), fraction(one) <= fraction(other))
                self.assertIs(is_more(one, other), fraction(one) > fraction(other))
                if fraction(other) > 0:
                    self.check_numbers(over(one, other), number(fraction(one) / fraction(other)))

    def test_sums(self):
        self.check_numbers(total([]), 0)
        self.check_numbers(total([1, (1, 2), (3, 2)]), 3)
        self.check_numbers(total([1, (1, 3)]), (4, 3))
        self.check_numbers(with_gaps([], 7), 0)
        self.check_numbers(with_gaps([5], 7), 5)
        self.check_numbers(with_gaps([5, (1, 2), 3], (3, 4)), 10)

    def test_whole_numbers_are_integers(self):
        self.check_numbers(number_of(6, 3), 2)
        self.check_numbers(number_of(-6, 3), -2)
        self.check_numbers(number_of(0, 5), 0)
        self.check_numbers(number_of(5, 1), 5)
        self.check_numbers(number_of(6, 4), (3, 2))
        self.check_numbers(number_of(-6, 4), (-3, 2))
        self.check_numbers(plus((1, 2), (1, 2)), 1)
        self.check_numbers(times((2, 3), (3, 2)), 1)

    def test_numbers_of_any_length(self):
        great = 10 ** 5000
        self.assertIs(is_length(great), True)
        self.assertTrue(plus((great + 1, great), (great - 1, great)) == 2)
        self.assertTrue(times(great, (1, great)) == 1)
        self.assertIs(at_most((great + 1, great), 1), False)


if __name__ == "__main__":
    unittest.main()
