"""Goals: times at which runners are at one place or at wanted places, and refusals, which show that there are none."""

from math import gcd, lcm

from laprunners.checks import as_time, as_window
from laprunners.conditions import ALWAYS, conditions_of, leads_of, parts_of, sequence_of, steps_to, time_at
from laprunners.errors import InvalidCount, LimitExceeded, Together
from laprunners.moments import Moments
from laprunners.ratios import greater, is_integer, is_less, lesser, reduced
from laprunners.refusals import refusal_of, sums_of

MOST_TIMES = 2000


def goal_rows(race, goal):
    """Return the tuples (start, end, moments) of all parts of a goal; the end of the last one is None."""
    conditions = conditions_of(race, goal)
    rows = []
    for begin, until in parts_of(conditions, (0, 1), None):
        rows.append((begin, until, _moments(sequence_of(conditions, begin, race.length), begin, until)))
    return rows


def count_goal(race, goal, start, end):
    """Return how often a goal is reached in a window."""
    return sum([high - low for _, low, high in _runs(race, goal, start, end)])


def goal_times(race, goal, start, end):
    """Return the times in a window at which a goal is reached, ascending."""
    runs = _runs(race, goal, start, end)
    if sum([high - low for _, low, high in runs]) > MOST_TIMES:
        raise LimitExceeded(MOST_TIMES)
    return [time_at(sequence, index) for sequence, low, high in runs for index in range(low + 1, high + 1)]


def nth_goal(race, goal, number, *, after=0):
    """Return the time with a number after a time at which a goal is reached, or None if there are fewer."""
    conditions = conditions_of(race, goal)
    if not is_integer(number) or number < 1:
        raise InvalidCount()
    left, start = number, as_time(after)
    for part in parts_of(conditions, start, None):
        sequence, low, high = _run(race, conditions, part, start, None)
        if high is None or left <= high - low:
            return time_at(sequence, low + left)
        left -= high - low
    return None


def next_return(race, *, after=0):
    """Return the first time after a time at which all runners are at the places of their starts, or None."""
    return nth_goal(race, {name: race.start(name) for name in race.names()}, 1, after=after)


def refusal(race, goal):
    """Return a tuple of integers which shows that a goal is not reached in its last part, or None if there is none."""
    growths, lacks, modulus = _demands(race, goal)
    moving = [at for at, growth in enumerate(growths) if growth != 0]
    for at, growth in enumerate(growths):
        if growth == 0 and lacks[at] % modulus != 0:
            return refusal_of(len(growths), {at: 1})
    # Conditions of which each two can hold at one time can all hold at one time, so two of them are enough.
    for index, one in enumerate(moving):
        for other in moving[index + 1:]:
            divisor = gcd(growths[one], growths[other])
            share, other_share = growths[other] // divisor, -growths[one] // divisor
            if (share * lacks[one] + other_share * lacks[other]) % modulus != 0:
                return refusal_of(len(growths), {one: share, other: other_share})
    return None


def is_refusal(race, goal, value):
    """Tell whether a value is a refusal of a goal."""
    growths, lacks, modulus = _demands(race, goal)
    sums = sums_of(value, growths, lacks)
    return sums is not None and sums[0] == 0 and sums[1] % modulus != 0


def _moments(sequence, begin, until):
    """Return the moments of a part with a sequence, ALWAYS, or None if there are none in the part."""
    if sequence is None or sequence == ALWAYS:
        return sequence
    first = time_at(sequence, steps_to(sequence, begin) + 1)
    if until is not None and is_less(until, first):
        return None
    return Moments(first, reduced(sequence[1], sequence[2]))


def _runs(race, goal, start, end):
    """Return the runs of a window, one for each part with moments; check all arguments in their order."""
    conditions = conditions_of(race, goal)
    begin, until = as_window(start, end)
    return [_run(race, conditions, part, begin, until) for part in parts_of(conditions, begin, until)]


def _run(race, conditions, part, start, end):
    """Return the run (sequence, low, high) of a part within a window that has times in common with it.

    The goal is reached there at the times of the sequence with the indexes from low + 1 to high, which is None if this
    goes on without end.
    """
    sequence, begin = sequence_of(conditions, part[0], race.length), greater(part[0], start)
    if sequence == ALWAYS:
        raise Together(begin)
    if sequence is None:
        return None, 0, 0
    until = _earlier(part[1], end)
    return sequence, steps_to(sequence, begin), None if until is None else steps_to(sequence, until)


def _earlier(one, other):
    """Return the earlier one of two times, of which None is later than all others."""
    if one is None or other is None:
        return other if one is None else one
    return lesser(one, other)


def _demands(race, goal):
    """Return the growths and the lacks of a goal in its last part, and the length, as integers.

    The growths are multiplied by one number, the lacks and the length by another one.
    """
    conditions = conditions_of(race, goal)
    begin, _ = parts_of(conditions, (0, 1), None)[-1]
    leads = leads_of(conditions, begin, race.length)
    top, bottom = begin
    modulus = 1
    for _, _, unit in leads:
        modulus = lcm(modulus, unit)
    growths = [rate * (modulus // unit) for rate, _, unit in leads]
    lacks = [-(rate * top + base * bottom) * (modulus // unit) for rate, base, unit in leads]
    return growths, lacks, modulus * bottom
