"""Turns: times from which on a runner has another speed than just before; and the period after the last turn."""

from math import gcd, lcm

from laprunners.ratios import greater, is_less, reduced
from laprunners.tracks import row_at


def last_turn(race, start, end):
    """Return the last turn after a time and before another one, or before any time if this is None; or None."""
    found = None
    for track in race.tracks().values():
        for before, row in zip(track, track[1:]):
            time = row[0]
            if row[1] != before[1] and is_less(start, time) and (end is None or is_less(time, end)):
                found = time if found is None else greater(found, time)
    return found


def period_from(race, time):
    """Return the period of all distances between the runners, if no turn comes after a time.

    If all speeds are equal, there is none; then return None.
    """
    speeds = [row_at(track, time)[1] for track in race.tracks().values()]
    unit = 1
    for _, bottom in speeds:
        unit = lcm(unit, bottom)
    rates = [top * (unit // bottom) for top, bottom in speeds]
    # All differences of speeds are multiples of this one, and no greater number divides them all.
    divisor = 0
    for rate in rates:
        divisor = gcd(divisor, rate - rates[0])
    if divisor == 0:
        return None
    length_top, length_bottom = race.length
    return reduced(length_top * unit, length_bottom * divisor)
