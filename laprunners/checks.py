"""Checks of arguments that several files of the package need."""

from laprunners.errors import InvalidNumber, InvalidTime, InvalidWindow
from laprunners.ratios import as_ratio, is_less, is_number

MOST_LETTERS = 8


def is_name(value):
    """Tell whether a value can be the name of a runner."""
    if not isinstance(value, str) or not 1 <= len(value) <= MOST_LETTERS:
        return False
    # Of the signs in ASCII, only a to z are lowercase letters, and only 0 to 9 are digits.
    return value.isascii() and value.isalnum() and value.islower() and value[0].isalpha()


def is_positive(value):
    """Tell whether a value is a number greater than 0."""
    return is_number(value) and as_ratio(value)[0] > 0


def as_time(value):
    """Return a time as a ratio."""
    try:
        time = as_ratio(value)
    except InvalidNumber:
        raise InvalidTime() from None
    if time[0] < 0:
        raise InvalidTime()
    return time


def as_window(start, end):
    """Return the start and the end of a window as ratios."""
    begin, until = as_time(start), as_time(end)
    if is_less(until, begin):
        raise InvalidWindow()
    return begin, until
