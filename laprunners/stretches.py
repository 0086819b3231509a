"""Stretches: parts of a window in which two runners keep their speeds, and the times at which they have a gap.

A stretch is a tuple (begin, end, rate, base, unit). It contains the times after begin and up to end, so that the
speeds just before a time count; without an end, it is None. The position of the second runner minus that of the
first one at a time t is (rate * t + base) / unit there, and unit is greater than 0.

A counter has the same form. Its rate is greater than 0, and the gap comes to a value at the times of the counter at
which (rate * t + base) / unit, its count, is an integer: so these times are counted and found without listing them.
"""

from laprunners.ratios import ascending, reduced


def stretches(first, second, start, end):
    """Return the stretches with different speeds of two runners, of whom part_of gave the rows of a window."""
    found = []
    begins = ascending([row[0] for row in first[1:] + second[1:]])
    at = to = 0
    for begin, until in zip([start, *begins], [*begins, end]):
        if at + 1 < len(first) and first[at + 1][0] == begin:
            at += 1
        if to + 1 < len(second) and second[to + 1][0] == begin:
            to += 1
        _, speed, rate, base, unit = first[at]
        _, other_speed, other_rate, other_base, other_unit = second[to]
        if speed != other_speed:
            growth, lead = other_rate * unit - rate * other_unit, other_base * unit - base * other_unit
            found.append((begin, until, growth, lead, unit * other_unit))
    return found


def counter_of(stretch, value, length):
    """Return the counter of the times of a stretch at which the gap comes to a value."""
    begin, end, rate, base, unit = stretch
    value_top, value_bottom = value
    length_top, length_bottom = length
    growth = rate * value_bottom * length_bottom
    lead = (base * value_bottom - value_top * unit) * length_bottom
    if growth < 0:
        growth, lead = -growth, -lead
    return (begin, end, growth, lead, unit * value_bottom * length_top)


def count_at(counter, time):
    """Return the greatest integer that is not greater than the count of a counter at a time."""
    top, bottom = time
    _, _, rate, base, unit = counter
    return (rate * top + base * bottom) // (unit * bottom)


def count_in(counter):
    """Return how often the count of a counter is an integer up to its end."""
    return count_at(counter, counter[1]) - count_at(counter, counter[0])


def time_of(counter, count):
    """Return the time at which a counter has a count."""
    _, _, rate, base, unit = counter
    return reduced(count * unit - base, rate)
