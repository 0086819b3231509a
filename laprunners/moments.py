"""Moments: a first time and all later times that follow it by whole steps."""

from math import lcm

from laprunners.checks import as_time, is_positive
from laprunners.congruences import common
from laprunners.errors import InvalidCount, InvalidFactor, InvalidNumber
from laprunners.ratios import as_ratio, divided, floor_of, is_integer, is_number, minus, plus, reduced, times


class Moments:
    """The times begin, begin + step, begin + 2 * step, and so on without end. Moments never change."""

    def __init__(self, begin, step):
        self._begin = as_time(begin)
        if not is_positive(step):
            raise InvalidNumber()
        self._step = as_ratio(step)

    def __eq__(self, other):
        return isinstance(other, Moments) and self._begin == other._begin and self._step == other._step

    # Without this, Python would go through the indexes and never come to an end.
    def __iter__(self):
        raise TypeError("Moments cannot be iterated")

    def __getitem__(self, at):
        if not is_integer(at) or at < 0:
            raise InvalidCount()
        return plus(self._begin, times(at, self._step))

    def __contains__(self, time):
        if not is_number(time):
            return False
        top, bottom = self._steps_to(time)
        return top >= 0 and bottom == 1

    def __call__(self, time):
        return self.count(time)

    def __add__(self, other):
        return Moments(plus(self._begin, other), self._step)

    def __mul__(self, other):
        if not is_positive(other):
            raise InvalidFactor()
        return Moments(times(self._begin, other), times(self._step, other))

    def __and__(self, other):
        return _common(self, other)

    @property
    def begin(self):
        """The first moment, a ratio."""
        return self._begin

    @property
    def step(self):
        """The time from each moment to the next one, a ratio."""
        return self._step

    def count(self, time):
        """Return the number of moments that are not after a time."""
        return max(0, floor_of(self._steps_to(as_time(time))) + 1)

    def after(self, time):
        """Return the first moment after a time."""
        return self[self.count(time)]

    def _steps_to(self, time):
        """Return how many steps lead from the first moment to a number; before the first one they are negative."""
        return divided(minus(time, self._begin), self._step)


def _common(one, other):
    """Return the common moments of two Moments, or None if there are none."""
    # In these units of time, begins and steps are integers.
    unit = lcm(one.begin[1], one.step[1], other.begin[1], other.step[1])
    begin, step = _in_units(one.begin, unit), _in_units(one.step, unit)
    other_begin, other_step = _in_units(other.begin, unit), _in_units(other.step, unit)
    found = common(begin, step, other_begin, other_step)
    if found is None:
        return None
    first, common_step = found
    # The first number that both sequences contain if the other one had no begin may be before this begin.
    if first < other_begin:
        first = other_begin + (first - other_begin) % common_step
    return Moments(reduced(first, unit), reduced(common_step, unit))


def _in_units(number, unit):
    """Return a ratio, multiplied by a multiple of its denominator, as an integer."""
    return number[0] * (unit // number[1])
