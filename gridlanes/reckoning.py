"""Exact numbers: an integer, or a tuple (top, bottom) for a fraction in lowest terms that is not whole.

Besides these there are MOVING numbers, of which no caller knows. They stand for what numbers come to while something
grows from a number, its START, on: a tuple (now, growth, bottom, moment) is (now + growth * t) / bottom, the growth not
being 0, if what grows is the start and t. They are compared as they are just behind the start; and their Moment keeps
for which t at most each comparison so far turns out like that. So one reckoning tells a whole stretch of numbers.
"""

from math import gcd


class Moment:
    """The start of what grows, and the least t from which on a comparison turns out otherwise: top / bottom.

    top is None as long as there is none.
    """

    def __init__(self, start):
        self.start = start
        self.top = None
        self.bottom = 1


def is_integer(value):
    """Tell whether a value is an integer; a bool is none."""
    return isinstance(value, int) and not isinstance(value, bool)


def is_number(value):
    """Tell whether a value is a NUMBER."""
    if not isinstance(value, tuple):
        return is_integer(value)
    if len(value) == 4 and isinstance(value[3], Moment):
        return True
    if len(value) != 2 or not is_integer(value[0]) or not is_integer(value[1]):
        return False
    return value[1] >= 2 and gcd(value[0], value[1]) == 1


def is_length(value):
    """Tell whether a value is a LENGTH, a NUMBER from 0 on."""
    return is_number(value) and at_most(0, value)


def fraction_of(number):
    """Return the top and the bottom of a NUMBER."""
    if isinstance(number, tuple):
        return number
    return (number, 1)


def number_of(top, bottom):
    """Return the NUMBER that is top divided by bottom, for a bottom above 0."""
    common = gcd(top, bottom)
    if common == bottom:
        return top // bottom
    return (top // common, bottom // common)


def is_moving(number):
    """Tell whether a NUMBER or a moving number is moving."""
    return isinstance(number, tuple) and len(number) == 4


def moving_parts(number):
    """Return now, growth, bottom and moment of any number; the moment is None if it is not moving."""
    if isinstance(number, int):
        return (number, 0, 1, None)
    return number if len(number) == 4 else (number[0], 0, number[1], None)


def moving_of(now, growth, bottom, moment):
    """Return the number with these parts, for a bottom above 0; it is not moving if its growth is 0."""
    if growth == 0:
        return number_of(now, bottom)
    common = gcd(gcd(now, growth), bottom)
    return (now // common, growth // common, bottom // common, moment)


def moving_sum(one, other, sign):
    """Return the sum of a number and another one, or, for the sign -1, what the one is more than the other one."""
    one_now, one_growth, one_bottom, moment = moving_parts(one)
    other_now, other_growth, other_bottom, other_moment = moving_parts(other)
    if moment is None:
        moment = other_moment
    if one_bottom == other_bottom:
        return moving_of(one_now + sign * other_now, one_growth + sign * other_growth, one_bottom, moment)
    one_factor = other_bottom
    other_factor = sign * one_bottom
    now = one_now * one_factor + other_now * other_factor
    growth = one_growth * one_factor + other_growth * other_factor
    return moving_of(now, growth, one_bottom * other_bottom, moment)


def moving_product(number, factor):
    """Return the product of a moving number and a NUMBER."""
    now, growth, bottom, moment = number
    top, under = fraction_of(factor)
    return moving_of(now * top, growth * top, bottom * under, moment)


def keep_turn(moment, top, bottom):
    """Keep that a comparison turns out otherwise from the t on that is top / bottom."""
    if moment.top is None or top * moment.bottom < moment.top * bottom:
        moment.top = top
        moment.bottom = bottom


def is_above(number):
    """Tell whether any number is more than 0; the moment of a moving one keeps from where on this is otherwise."""
    now, growth, _, moment = moving_parts(number)
    if now > 0 > growth or now < 0 < growth:
        keep_turn(moment, abs(now), abs(growth))
    return now > 0 or (now == 0 and growth > 0)


def at_most(one, other):
    """Tell whether one NUMBER is at most another one."""
    if isinstance(one, int) and isinstance(other, int):
        return one <= other
    if is_moving(one) or is_moving(other):
        return not is_above(moving_sum(one, other, -1))
    one_top, one_bottom = fraction_of(one)
    other_top, other_bottom = fraction_of(other)
    return one_top * other_bottom <= other_top * one_bottom


def is_more(one, other):
    """Tell whether one NUMBER is more than another one."""
    return not at_most(one, other)


def lesser(one, other):
    """Return the lesser one of two NUMBERS."""
    return one if at_most(one, other) else other


def greater(one, other):
    """Return the greater one of two NUMBERS."""
    return one if at_most(other, one) else other


def plus(one, other):
    """Return the sum of two NUMBERS."""
    if isinstance(one, int) and isinstance(other, int):
        return one + other
    if is_moving(one) or is_moving(other):
        return moving_sum(one, other, 1)
    one_top, one_bottom = fraction_of(one)
    other_top, other_bottom = fraction_of(other)
    return number_of(one_top * other_bottom + other_top * one_bottom, one_bottom * other_bottom)


def minus(one, other):
    """Return one NUMBER less another one."""
    if isinstance(one, int) and isinstance(other, int):
        return one - other
    if is_moving(one) or is_moving(other):
        return moving_sum(one, other, -1)
    one_top, one_bottom = fraction_of(one)
    other_top, other_bottom = fraction_of(other)
    return number_of(one_top * other_bottom - other_top * one_bottom, one_bottom * other_bottom)


def times(one, other):
    """Return the product of two NUMBERS; just one of them may be moving."""
    if isinstance(one, int) and isinstance(other, int):
        return one * other
    if is_moving(one):
        return moving_product(one, other)
    if is_moving(other):
        return moving_product(other, one)
    one_top, one_bottom = fraction_of(one)
    other_top, other_bottom = fraction_of(other)
    return number_of(one_top * other_top, one_bottom * other_bottom)


def over(one, other):
    """Return one NUMBER divided by another one, that is more than 0 and not moving."""
    if is_moving(one):
        top, bottom = fraction_of(other)
        return moving_product(one, number_of(bottom, top))
    one_top, one_bottom = fraction_of(one)
    other_top, other_bottom = fraction_of(other)
    return number_of(one_top * other_bottom, one_bottom * other_top)


def total(numbers):
    """Return the sum of a list of NUMBERS."""
    reached = 0
    for number in numbers:
        reached = plus(reached, number)
    return reached


def with_gaps(numbers, gap):
    """Return the sum of a list of NUMBERS, with a gap between each two."""
    return plus(total(numbers), times(max(len(numbers) - 1, 0), gap))


def moving_from(start):
    """Return what has been a start and grows from there on."""
    top, bottom = fraction_of(start)
    return (top, bottom, bottom, Moment(start))


def turn_of(moment):
    """Return the least number behind the start from which on a comparison turns out otherwise, None for none."""
    return None if moment.top is None else plus(moment.start, number_of(moment.top, moment.bottom))


def form_of(number):
    """Return the form (a, b) of any number: it is a + b * v, if what grows is v."""
    now, growth, bottom, moment = moving_parts(number)
    if moment is None:
        return (number, 0)
    each = number_of(growth, bottom)
    return (minus(number_of(now, bottom), times(each, moment.start)), each)


def value_at(form, number):
    """Return what a form comes to at a number, which may be moving."""
    return plus(form[0], times(form[1], number))


def values_at(forms, number):
    """Return the list of what forms come to at a number."""
    return [value_at(form, number) for form in forms]
