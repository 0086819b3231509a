"""Conditions of a goal, and the times at which all of them hold.

A condition is a tuple (track, other). It holds when the positions of the two tracks differ by a multiple of the length.
A wanted place has a track of its own, which stands still.

A sequence is a tuple (first, step, unit): the times (first + k * step) / unit for all integers k, also negative ones.
The word ALWAYS stands in its place if the conditions always hold, and None if they never do.
"""

from math import gcd, lcm

from laprunners.congruences import common
from laprunners.errors import InvalidGoal, InvalidNumber
from laprunners.ratios import as_ratio, ascending, is_less, reduced
from laprunners.tracks import lead_of, row_at

ALWAYS = "always"


def conditions_of(race, goal):
    """Return the conditions of a goal: one for each name but the first one, or one for each wanted place."""
    if not isinstance(goal, (list, tuple, dict)):
        raise InvalidGoal()
    if len(goal) < (1 if isinstance(goal, dict) else 2):
        raise InvalidGoal()
    tracks = [race.track(name) for name in goal]
    if isinstance(goal, dict):
        wanted = {name: _standing_at(goal[name]) for name in goal}
        return [(race.track(name), wanted[name]) for name in sorted(goal)]
    if len(set(goal)) < len(goal):
        raise InvalidGoal()
    return [(track, tracks[0]) for track in tracks[1:]]


def parts_of(conditions, start, end):
    """Return the tuples (begin, until) of the parts that have times in common with a window; the last until is None.

    Without an end, which is None, the window contains all times after its start.
    """
    if start == end:
        return []
    tracks = [conditions[0][1], *[track for track, _ in conditions]]
    begins = ascending([row[0] for track in tracks for row in track])
    found = []
    for begin, until in zip(begins, [*begins[1:], None]):
        if (until is None or is_less(start, until)) and (end is None or is_less(begin, end)):
            found.append((begin, until))
    return found


def leads_of(conditions, time, length):
    """Return the leads of the first tracks of conditions over the other ones, with the speeds from a time on."""
    return [lead_of(row_at(track, time), row_at(other, time), length) for track, other in conditions]


def sequence_of(conditions, begin, length):
    """Return the sequence of the times at which conditions hold, if the speeds from a time on hold at all times."""
    leads = leads_of(conditions, begin, length)
    if any([rate == 0 and base % unit != 0 for rate, base, unit in leads]):
        return None
    found = ALWAYS
    for rate, base, unit in leads:
        if rate != 0:
            found = _joined(found, _sequence(rate, base, unit))
        if found is None:
            return None
    return found


def steps_to(sequence, time):
    """Return the index of the last time of a sequence that is not after a time."""
    first, step, unit = sequence
    top, bottom = time
    return (top * unit - first * bottom) // (step * bottom)


def time_at(sequence, index):
    """Return the time of a sequence with an index."""
    first, step, unit = sequence
    return reduced(first + index * step, unit)


def _standing_at(place):
    """Return the track of a runner who always stands at a place, any number."""
    try:
        top, bottom = as_ratio(place)
    except InvalidNumber:
        raise InvalidGoal() from None
    return (((0, 1), (0, 1), 0, top, bottom),)


def _sequence(rate, base, unit):
    """Return the sequence of the times t at which (rate * t + base) / unit is an integer, for a rate other than 0."""
    divisor = gcd(rate, base, unit)
    if rate < 0:
        divisor = -divisor
    return -base // divisor, abs(unit // divisor), rate // divisor


def _joined(one, other):
    """Return the sequence of the times that two sequences, of which the first one may be ALWAYS, have in common."""
    if one == ALWAYS:
        return other
    first, step, unit = one
    other_first, other_step, other_unit = other
    both = lcm(unit, other_unit)
    share, other_share = both // unit, both // other_unit
    found = common(first * share, step * share, other_first * other_share, other_step * other_share)
    return None if found is None else (*found, both)
