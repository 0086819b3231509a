"""Exact numbers: a number is an integer or a ratio (n, d) in lowest terms with d >= 1."""

from math import gcd

from laprunners.errors import DivisionByZero, InvalidNumber

FEW = 8


def is_integer(value):
    """Tell whether a value is an int that is neither True nor False."""
    return isinstance(value, int) and not isinstance(value, bool)


def is_ratio(value):
    """Tell whether a value is a tuple (n, d) in lowest terms with d >= 1."""
    if not isinstance(value, tuple) or len(value) != 2:
        return False
    top, bottom = value
    return is_integer(top) and is_integer(bottom) and bottom >= 1 and gcd(top, bottom) == 1


def is_number(value):
    """Tell whether a value is an integer or a ratio."""
    return is_integer(value) or is_ratio(value)


def as_ratio(value):
    """Return a number as a ratio."""
    # Nearly all that the package does passes here: the two usual cases come
    # first, without further calls of functions.
    if type(value) is tuple and len(value) == 2:
        top, bottom = value
        if type(top) is int and type(bottom) is int and bottom >= 1 and gcd(top, bottom) == 1:
            return value
    elif type(value) is int:
        return (value, 1)
    if is_integer(value):
        return (value, 1)
    if is_ratio(value):
        return value
    raise InvalidNumber()


def reduced(top, bottom):
    """Return the ratio of two integers of which the second one is greater than 0."""
    divisor = gcd(top, bottom)
    if divisor == 1:
        return (top, bottom)
    return (top // divisor, bottom // divisor)


def ratio(numerator, denominator=1):
    """Return the ratio of two integers."""
    if not is_integer(numerator) or not is_integer(denominator):
        raise InvalidNumber()
    if denominator == 0:
        raise DivisionByZero()
    if denominator < 0:
        return reduced(-numerator, -denominator)
    return reduced(numerator, denominator)


def plus(first, second):
    """Return the sum of two numbers."""
    top, bottom = as_ratio(first)
    other_top, other_bottom = as_ratio(second)
    return reduced(top * other_bottom + other_top * bottom, bottom * other_bottom)


def minus(first, second):
    """Return the first number minus the second one."""
    top, bottom = as_ratio(first)
    other_top, other_bottom = as_ratio(second)
    return reduced(top * other_bottom - other_top * bottom, bottom * other_bottom)


def times(first, second):
    """Return the product of two numbers."""
    top, bottom = as_ratio(first)
    other_top, other_bottom = as_ratio(second)
    return reduced(top * other_top, bottom * other_bottom)


def divided(first, second):
    """Return the first number divided by the second one."""
    top, bottom = as_ratio(first)
    other_top, other_bottom = as_ratio(second)
    if other_top == 0:
        raise DivisionByZero()
    if other_top < 0:
        return reduced(-top * other_bottom, -bottom * other_top)
    return reduced(top * other_bottom, bottom * other_top)


def compare(first, second):
    """Return -1, 0 or 1 if the first number is less than, equal to or greater than the second one."""
    top, bottom = as_ratio(first)
    other_top, other_bottom = as_ratio(second)
    left, right = top * other_bottom, other_top * bottom
    if left < right:
        return -1
    return 1 if left > right else 0


def is_less(first, second):
    """Tell whether the first one of two ratios is less than the second one."""
    return first[0] * second[1] < second[0] * first[1]


def lesser(first, second):
    """Return the lesser one of two ratios."""
    return second if is_less(second, first) else first


def greater(first, second):
    """Return the greater one of two ratios."""
    return second if is_less(first, second) else first


def floor_of(value):
    """Return the greatest integer that is not greater than a number."""
    top, bottom = as_ratio(value)
    return top // bottom


def remainder(value, modulus):
    """Return the number in [0, modulus) that differs from the value by a multiple of the modulus."""
    top, bottom = as_ratio(value)
    other_top, other_bottom = as_ratio(modulus)
    if other_top <= 0:
        raise DivisionByZero()
    return reduced((top * other_bottom) % (other_top * bottom), bottom * other_bottom)


def in_order(values):
    """Return the numbers of a list as ratios, ascending, without duplicates."""
    if not isinstance(values, list):
        raise InvalidNumber()
    return ascending([(value, 1) if type(value) is int else as_ratio(value) for value in values])


def ascending(rows):
    """Return the ratios of a list, ascending, without duplicates."""
    # Inserting is faster for lists as short as those of runners, but not for long ones.
    return _ranked(rows) if len(rows) > FEW else _inserted(rows)


def _inserted(rows):
    """Return the ratios of a list, ascending, without duplicates, each one put behind those that are not greater."""
    found = []
    for row in rows:
        top, bottom = row
        at = len(found)
        while at and top * found[at - 1][1] < found[at - 1][0] * bottom:
            at -= 1
        if not at or found[at - 1] != row:
            found.insert(at, row)
    return found


def _ranked(rows):
    """Return the ratios of a list, ascending, without duplicates, by the sorting of integers."""
    # Different numbers are more than 1 / 2 ** bits apart, so the integer parts
    # of the numbers times 2 ** bits are different and have the same order.
    bits = 2 * max([bottom for _, bottom in rows]).bit_length()
    ranked = {(row[0] << bits) // row[1]: row for row in rows}
    return [ranked[part] for part in sorted(ranked)]
