"""Segments: parts of a time in which all runners keep their speeds, and the passes in them.

A segment is a tuple (begin, end, rows). It contains the times after begin and up to end, so that the speeds just before
a time count; without an end, it is None. rows is the dict from all names, sorted, to the rows of their tracks.

A pair is a tuple (over, under, rate, lead, unit): the first runner is faster, and passes the other one at the times t
at which (rate * t + lead) / unit is an integer; rate and unit are greater than 0. So passes are counted and found
without listing them. A span has two more items, low and high: these integers are those from low + 1 to high.

A meeting is a tuple (time, passed) of a time and the sorted list of the tuples (over, under) of all passes at it.
"""

from laprunners.ratios import ascending, plus, reduced
from laprunners.tracks import lead_of, part_of, row_at


def segments(race, start, end):
    """Return the segments of a window, or those from its start on if its end is None."""
    parts = {name: part_of(track, start, end) for name, track in race.tracks().items()}
    begins = ascending([row[0] for part in parts.values() for row in part[1:]])
    found = []
    for begin, until in zip([start, *begins], [*begins, end]):
        found.append((begin, until, {name: row_at(part, begin) for name, part in parts.items()}))
    return found


def pairs_in(rows, length):
    """Return the pairs of all runners with different speeds, if the runners have the rows of a dict."""
    names, found = list(rows), []
    for at, name in enumerate(names):
        for other in names[at + 1:]:
            rate, lead, unit = lead_of(rows[name], rows[other], length)
            if rate > 0:
                found.append((name, other, rate, lead, unit))
            elif rate < 0:
                found.append((other, name, -rate, -lead, unit))
    return found


def spans_of(pairs, start, end):
    """Return the spans with passes of pairs, after a time and up to another one."""
    top, bottom = start
    end_top, end_bottom = end
    found = []
    for over, under, rate, lead, unit in pairs:
        low = (rate * top + lead * bottom) // (unit * bottom)
        high = (rate * end_top + lead * end_bottom) // (unit * end_bottom)
        if low < high:
            found.append((over, under, rate, lead, unit, low, high))
    return found


def many_in(spans):
    """Return the number of the passes of spans."""
    return sum([span[6] - span[5] for span in spans])


def meetings_of(spans):
    """Return the meetings of the spans of a segment, ascending."""
    if not spans:
        return []
    # The times are quotients by rates. Different ones are more than 1 / 2 ** bits apart, so that the integer parts of
    # the times multiplied by 2 ** bits are different and have the same order.
    bits = 2 * max([span[2] for span in spans]).bit_length()
    rows = []
    for over, under, rate, lead, unit, low, high in spans:
        for count in range(low + 1, high + 1):
            top = count * unit - lead
            rows.append(((top << bits) // rate, over, under, top, rate))
    found, last = [], None
    for part, over, under, top, bottom in sorted(rows):
        if part != last:
            found.append((reduced(top, bottom), []))
            last = part
        found[-1][1].append((over, under))
    return found


def bounds_of(pairs, begin, number):
    """Return two times, so that the pass with a number after begin comes after the first one, not after the second one.

    This holds as long as the runners keep their speeds. Only a few times as many passes as there are pairs are between.
    """
    slack = len(pairs)
    _, _, rate, _, unit = pairs[0]
    # In this time, one pair alone has many more passes than the number.
    top, bottom = reduced(16 * (number + slack) * unit, rate)
    many = many_in(spans_of(pairs, begin, plus(begin, (top, bottom))))
    # The passes in any stretch of time are as many as its share of all lengths gained, give or take one for each pair.
    low = reduced(top * max(0, number - slack), bottom * (many + slack))
    high = reduced(top * (number + slack), bottom * (many - slack))
    return plus(begin, low), plus(begin, high)
