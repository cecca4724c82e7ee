"""Promise [5]: NUMBERS and LENGTHS, and exact reckoning with them."""

import random
import unittest
from fractions import Fraction

from gridlanes.growing import cuts_between
from gridlanes.reckoning import (at_most, form_of, greater, is_length, is_more, is_number, lesser, minus, moving_from,
                                 number_of, over, plus, times, total, turn_of, value_at, with_gaps)
from tests.support import Case, HUGE, all_values

NUMBERS = (0, 1, -1, 2, 7, -12, (1, 2), (-1, 2), (3, 2), (-3, 2), (2, 3), (-5, 6), (25, 2), (1, 12), HUGE,
           (HUGE, 3), (-HUGE, 7))


def fraction(number):
    return Fraction(*number) if isinstance(number, tuple) else Fraction(number)


def number(value):
    return value.numerator if value.denominator == 1 else (value.numerator, value.denominator)


class NumbersTest(Case):

    def test_what_is_a_number(self):
        for value in NUMBERS:
            self.assertIs(is_number(value), True)

    def test_what_is_none(self):
        numbers = ("zero", "one", "minus one", "huge", "minus huge", "half", "minus half")
        values = all_values()
        for label in values:
            with self.subTest(label):
                self.assertIs(is_number(values[label]), label in numbers)

    def test_bottoms(self):
        for bottom in (-3, -2, -1, 0, 1):
            self.assertIs(is_number((1, bottom)), False)
        self.assertIs(is_number((1, 2)), True)
        for value in ((2, 4), (-2, 4), (6, 3), (0, 2), (4, 6), (9, 6), (1, 2, 3), (1,), (1, True), (True, 2), ((1,), 2),
                      (1, None), (1, "a"), (1, (2,)), (None, 2), ("a", 2)):
            self.assertIs(is_number(value), False)

    def test_lengths_begin_at_zero(self):
        for value in NUMBERS:
            self.assertIs(is_length(value), fraction(value) >= 0)
        for value in (True, False, None, "1", [1, 2], (2, 4)):
            self.assertIs(is_length(value), False)

    def test_reckoning_is_exact(self):
        for one in NUMBERS:
            for other in NUMBERS:
                self.check_numbers(plus(one, other), number(fraction(one) + fraction(other)))
                self.check_numbers(times(one, other), number(fraction(one) * fraction(other)))
                self.check_numbers(minus(one, other), number(fraction(one) - fraction(other)))
                self.check_numbers(lesser(one, other), number(min(fraction(one), fraction(other))))
                self.check_numbers(greater(one, other), number(max(fraction(one), fraction(other))))
                self.assertIs(at_most(one, other), fraction(one) <= fraction(other))
                self.assertIs(is_more(one, other), fraction(one) > fraction(other))
                if fraction(other) > 0:
                    self.check_numbers(over(one, other), number(fraction(one) / fraction(other)))

    def test_sums(self):
        self.check_numbers(total([]), 0)
        self.check_numbers(total([1, (1, 2), (3, 2)]), 3)
        self.check_numbers(total([1, (1, 3)]), (4, 3))
        self.check_numbers(with_gaps([], 7), 0)
        self.check_numbers(with_gaps([5], 7), 5)
        self.check_numbers(with_gaps([5, (1, 2), 3], (3, 4)), 10)

    def test_whole_numbers_are_integers(self):
        self.check_numbers(number_of(6, 3), 2)
        self.check_numbers(number_of(-6, 3), -2)
        self.check_numbers(number_of(0, 5), 0)
        self.check_numbers(number_of(5, 1), 5)
        self.check_numbers(number_of(6, 4), (3, 2))
        self.check_numbers(number_of(-6, 4), (-3, 2))
        self.check_numbers(plus((1, 2), (1, 2)), 1)
        self.check_numbers(times((2, 3), (3, 2)), 1)

    def test_numbers_of_any_length(self):
        great = 10 ** 5000
        self.assertIs(is_length(great), True)
        self.assertTrue(plus((great + 1, great), (great - 1, great)) == 2)
        self.assertTrue(times(great, (1, great)) == 1)
        self.assertIs(at_most((great + 1, great), 1), False)


class MovingTest(Case):
    """Numbers that stand for a stretch of numbers."""

    def reckon(self, steps, value):
        """What steps make of a value, and how all comparisons on the way turn out."""
        numbers, turns = [value, 3, (5, 2)], []
        for kind, one, other, factor in steps:
            one, other = numbers[one % len(numbers)], numbers[other % len(numbers)]
            if kind < 2:
                numbers.append((plus, minus)[kind](one, other))
            elif kind < 4:
                numbers.append((lesser, greater)[kind - 2](one, other))
            elif kind == 4:
                numbers.append(times(factor, one))
            elif kind == 5:
                numbers.append(over(one, factor))
            elif kind == 6:
                turns.append(at_most(one, other))
                numbers.append(one if turns[-1] else minus(other, 7))
            else:
                turns.append(is_more(one, other))
                numbers.append(total([one, other]) if turns[-1] else with_gaps([one, other], 2))
        return numbers, turns

    def random_steps(self, rng):
        return [(rng.randrange(8), rng.randrange(99), rng.randrange(99), rng.choice((1, 2, 3, (1, 2), (7, 3))))
                for _ in range(rng.randint(1, 25))]

    def test_a_stretch_behind_a_number(self):
        rng = random.Random(5)
        ends = 0
        for _ in range(1500):
            steps, start = self.random_steps(rng), rng.choice((0, 3, -4, (5, 2), (-7, 3)))
            moving = moving_from(start)
            numbers, turns = self.reckon(steps, moving)
            end = turn_of(moving[3])
            forms = [form_of(one) for one in numbers]
            for form in forms:
                self.assertTrue(is_number(form[0]) and is_number(form[1]))
            last = fraction(start) + 50 if end is None else fraction(end)
            self.assertGreater(last, fraction(start))
            ends += end is not None
            for far in (Fraction(1, 10 ** 9), Fraction(1, 2), 1 - Fraction(1, 10 ** 9)):
                value = number(fraction(start) + far * (last - fraction(start)))
                found, found_turns = self.reckon(steps, value)
                self.check_numbers(found, [value_at(form, value) for form in forms])
                self.assertEqual(found_turns, turns)
        self.assertGreater(ends, 500)

    def test_numbers_that_do_not_move(self):
        moving = moving_from((5, 2))
        self.check_numbers(minus(moving, moving), 0)
        self.check_numbers(minus(plus(moving, 3), moving), 3)
        self.check_numbers(times(0, moving), 0)
        self.check_numbers(form_of((5, 2)), ((5, 2), 0))
        self.check_numbers(form_of(plus(moving, 1)), (1, 1))
        self.check_numbers(form_of(over(times(moving, 2), 3)), (0, (2, 3)))
        self.assertEqual(plus(moving, 1), plus(1, moving))
        self.assertIs(turn_of(moving[3]), None)

    def test_turns(self):
        for other, is_above, turn in ((3, False, 3), ((21, 2), False, (21, 2)), ((5, 2), True, None), (2, True, None)):
            moving = moving_from((5, 2))
            self.assertIs(is_more(moving, other), is_above)
            self.assertEqual(turn_of(moving[3]), turn)
        moving = moving_from(4)
        for number in (9, 7, 8, 3, 4):
            at_most(moving, number)
        self.assertEqual(turn_of(moving[3]), 7)
        self.assertIs(at_most(moving, 4), False)
        self.assertIs(at_most(4, moving), True)
        self.assertIs(at_most(moving, moving), True)

    def test_cuts(self):
        def told(value):
            return [at_most(value, 3), is_more(value, (11, 2))]
        low, mid, high = [True, False], [False, False], [False, True]
        self.assertEqual(cuts_between(0, 9, told), [(0, low, low), (3, low, mid), ((11, 2), mid, high), (9, high, None)])
        self.assertEqual(cuts_between(0, None, told), [(0, low, low), (3, low, mid), ((11, 2), mid, high)])
        self.assertEqual(cuts_between(3, 5, told), [(3, low, mid), (5, mid, None)])
        self.assertEqual(cuts_between(3, 3, told), [(3, low, None)])
        self.assertEqual(cuts_between(7, None, told), [(7, high, high)])

    def test_no_caller_has_a_moving_number(self):
        for value in ((1, 2, 3, 4), (1, 1, 1, None), (0, 1, 1, "a")):
            self.assertIs(is_number(value), False)


if __name__ == "__main__":
    unittest.main()
