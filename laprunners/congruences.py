"""Sequences of integers: first + k * step for all integers k, without begin and end."""

from math import gcd


def solved(rate, wanted, modulus):
    """Return (first, step) of the integers whose product with a rate is a wanted one modulo a modulus, or None.

    The first one is the least one that is not negative.
    """
    divisor = gcd(rate, modulus)
    if wanted % divisor != 0:
        return None
    step = modulus // divisor
    return wanted // divisor * _inverse(rate // divisor, step) % step, step


def common(first, step, other_first, other_step):
    """Return (first, step) of the integers that two sequences have in common, or None if there are none.

    The first one is the least one that is not less than the first one of the first sequence.
    """
    found = solved(step, other_first - first, other_step)
    if found is None:
        return None
    steps, period = found
    return first + steps * step, step * period


def _inverse(value, modulus):
    """Return what gives 1 modulo a modulus if it is multiplied by a value that has no common divisor with it."""
    rest, other_rest = value, modulus
    factor, other_factor = 1, 0
    # Each rest is the factor beside it times the value, modulo the modulus.
    while other_rest:
        share = rest // other_rest
        rest, other_rest = other_rest, rest - share * other_rest
        factor, other_factor = other_factor, factor - share * other_factor
    return factor % modulus
