"""Exact numbers: an integer, or a tuple (top, bottom) for a fraction in lowest terms that is not whole."""

from math import gcd


def is_integer(value):
    """Tell whether a value is an integer; a bool is none."""
    return isinstance(value, int) and not isinstance(value, bool)


def is_number(value):
    """Tell whether a value is a NUMBER."""
    if not isinstance(value, tuple):
        return is_integer(value)
    if len(value) != 2 or not is_integer(value[0]) or not is_integer(value[1]):
        return False
    return value[1] >= 2 and gcd(value[0], value[1]) == 1


def is_length(value):
    """Tell whether a value is a LENGTH, a NUMBER from 0 on."""
    return is_number(value) and at_most(0, value)


def fraction_of(number):
    """Return the top and the bottom of a NUMBER."""
    if isinstance(number, tuple):
        return number
    return (number, 1)


def number_of(top, bottom):
    """Return the NUMBER that is top divided by bottom, for a bottom above 0."""
    common = gcd(top, bottom)
    if common == bottom:
        return top // bottom
    return (top // common, bottom // common)


def at_most(one, other):
    """Tell whether one NUMBER is at most another one."""
    if isinstance(one, int) and isinstance(other, int):
        return one <= other
    one_top, one_bottom = fraction_of(one)
    other_top, other_bottom = fraction_of(other)
    return one_top * other_bottom <= other_top * one_bottom


def is_more(one, other):
    """Tell whether one NUMBER is more than another one."""
    return not at_most(one, other)


def lesser(one, other):
    """Return the lesser one of two NUMBERS."""
    return one if at_most(one, other) else other


def greater(one, other):
    """Return the greater one of two NUMBERS."""
    return one if at_most(other, one) else other


def plus(one, other):
    """Return the sum of two NUMBERS."""
    if isinstance(one, int) and isinstance(other, int):
        return one + other
    one_top, one_bottom = fraction_of(one)
    other_top, other_bottom = fraction_of(other)
    return number_of(one_top * other_bottom + other_top * one_bottom, one_bottom * other_bottom)


def minus(one, other):
    """Return one NUMBER less another one."""
    if isinstance(one, int) and isinstance(other, int):
        return one - other
    one_top, one_bottom = fraction_of(one)
    other_top, other_bottom = fraction_of(other)
    return number_of(one_top * other_bottom - other_top * one_bottom, one_bottom * other_bottom)


def times(one, other):
    """Return the product of two NUMBERS."""
    if isinstance(one, int) and isinstance(other, int):
        return one * other
    one_top, one_bottom = fraction_of(one)
    other_top, other_bottom = fraction_of(other)
    return number_of(one_top * other_top, one_bottom * other_bottom)


def over(one, other):
    """Return one NUMBER divided by another one, that is more than 0."""
    one_top, one_bottom = fraction_of(one)
    other_top, other_bottom = fraction_of(other)
    return number_of(one_top * other_bottom, one_bottom * other_top)


def total(numbers):
    """Return the sum of a list of NUMBERS."""
    reached = 0
    for number in numbers:
        reached = plus(reached, number)
    return reached


def with_gaps(numbers, gap):
    """Return the sum of a list of NUMBERS, with a gap between each two."""
    return plus(total(numbers), times(max(len(numbers) - 1, 0), gap))
