"""Checks of arguments that several files of the package need."""

from laprunners.errors import InvalidTime, UnknownName
from laprunners.ratios import as_ratio, compare, is_number

LETTERS = "abcdefghijklmnopqrstuvwxyz"
DIGITS = "0123456789"
MOST_LETTERS = 8


def is_name(value):
    """Tell whether a value can be the name of a runner."""
    if not isinstance(value, str) or not 1 <= len(value) <= MOST_LETTERS:
        return False
    return value[0] in LETTERS and all([sign in LETTERS + DIGITS for sign in value])


def is_positive(value):
    """Tell whether a value is a number greater than 0."""
    return is_number(value) and compare(value, 0) > 0


def as_time(value):
    """Return a time as a ratio."""
    if not is_number(value) or compare(value, 0) < 0:
        raise InvalidTime()
    return as_ratio(value)


def need_name(race, name):
    """Raise UnknownName unless the race has a runner with the name."""
    if name not in race:
        raise UnknownName(name)
