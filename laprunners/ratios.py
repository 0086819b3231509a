"""Exact numbers: a number is an integer or a ratio (n, d) in lowest terms with d >= 1."""

from math import gcd

from laprunners.errors import DivisionByZero, InvalidNumber


def is_integer(value):
    """Tell whether a value is an int that is neither True nor False."""
    return isinstance(value, int) and not isinstance(value, bool)


def is_ratio(value):
    """Tell whether a value is a tuple (n, d) in lowest terms with d >= 1."""
    if not isinstance(value, tuple) or len(value) != 2:
        return False
    if not is_integer(value[0]) or not is_integer(value[1]):
        return False
    return value[1] >= 1 and gcd(value[0], value[1]) == 1


def is_number(value):
    """Tell whether a value is an integer or a ratio."""
    return is_integer(value) or is_ratio(value)


def as_ratio(value):
    """Return a number as a ratio."""
    if is_integer(value):
        return (value, 1)
    if is_ratio(value):
        return value
    raise InvalidNumber()


def ratio(numerator, denominator=1):
    """Return the ratio of two integers."""
    if not is_integer(numerator) or not is_integer(denominator):
        raise InvalidNumber()
    if denominator == 0:
        raise DivisionByZero()
    divisor = gcd(numerator, denominator)
    if denominator < 0:
        divisor = -divisor
    return (numerator // divisor, denominator // divisor)


def plus(first, second):
    """Return the sum of two numbers."""
    top, bottom = as_ratio(first)
    other_top, other_bottom = as_ratio(second)
    return ratio(top * other_bottom + other_top * bottom, bottom * other_bottom)


def minus(first, second):
    """Return the first number minus the second one."""
    top, bottom = as_ratio(first)
    other_top, other_bottom = as_ratio(second)
    return ratio(top * other_bottom - other_top * bottom, bottom * other_bottom)


def times(first, second):
    """Return the product of two numbers."""
    top, bottom = as_ratio(first)
    other_top, other_bottom = as_ratio(second)
    return ratio(top * other_top, bottom * other_bottom)


def divided(first, second):
    """Return the first number divided by the second one."""
    top, bottom = as_ratio(first)
    other_top, other_bottom = as_ratio(second)
    return ratio(top * other_bottom, bottom * other_top)


def compare(first, second):
    """Return -1, 0 or 1 if the first number is less than, equal to or greater than the second one."""
    top, bottom = as_ratio(first)
    other_top, other_bottom = as_ratio(second)
    left, right = top * other_bottom, other_top * bottom
    if left < right:
        return -1
    if left > right:
        return 1
    return 0


def floor_of(value):
    """Return the greatest integer that is not greater than a number."""
    top, bottom = as_ratio(value)
    return top // bottom


def remainder(value, modulus):
    """Return the number in [0, modulus) that differs from the value by a multiple of the modulus."""
    top, bottom = as_ratio(value)
    other_top, other_bottom = as_ratio(modulus)
    if other_top <= 0:
        raise DivisionByZero()
    return ratio((top * other_bottom) % (other_top * bottom), bottom * other_bottom)


def in_order(values):
    """Return the numbers of a list as ratios, ascending, without duplicates."""
    if not isinstance(values, list):
        raise InvalidNumber()
    rows = [as_ratio(value) for value in values]
    # Different numbers are more than 1 / 2 ** bits apart, so the integer parts
    # of the numbers times 2 ** bits are different and have the same order.
    bits = 2 * max([row[1].bit_length() for row in rows], default=0)
    ranked = sorted({((row[0] << bits) // row[1], row) for row in rows})
    return [row for _, row in ranked]
