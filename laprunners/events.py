"""The passes of a race in order: by time, then by the name of the runner who passes, then by the other name."""

from laprunners.checks import as_time, as_window
from laprunners.errors import InvalidCount, LimitExceeded
from laprunners.ratios import is_integer
from laprunners.segments import bounds_of, many_in, meetings_of, pairs_in, segments, spans_of
from laprunners.tracks import row_before

MOST_PASSES = 2000


def passes_at(race, time):
    """Return the sorted list of the pairs (over, under) of the passes at a time."""
    moment = as_time(time)
    if moment == (0, 1):
        return []
    top, bottom = moment
    rows = {name: row_before(track, moment) for name, track in race.tracks().items()}
    pairs = pairs_in(rows, race.length)
    return sorted([
        (over, under) for over, under, rate, lead, unit in pairs if (rate * top + lead * bottom) % (unit * bottom) == 0
    ])


def nth_pass(race, number, *, after=0):
    """Return the pass (time, over, under) with a number after a time, or None if there are fewer."""
    if not is_integer(number) or number < 1:
        raise InvalidCount()
    left = number
    for begin, end, rows in segments(race, as_time(after), None):
        pairs = pairs_in(rows, race.length)
        if end is None:
            return _found(pairs, begin, left) if pairs else None
        many = many_in(spans_of(pairs, begin, end))
        if left <= many:
            return _found(pairs, begin, left)
        left -= many


def pass_times(race, start, end):
    """Return the different times of the passes in a window, ascending."""
    begin, until = as_window(start, end)
    return [time for _, meetings in meetings_in(race, begin, until) for time, _ in meetings]


def listed_passes(race, start, end):
    """Return the passes (time, over, under) in a window, in order."""
    begin, until = as_window(start, end)
    found = []
    for _, meetings in meetings_in(race, begin, until):
        found.extend([(time, over, under) for time, passed in meetings for over, under in passed])
    return found


def meetings_in(race, begin, until):
    """Return the tuples (end, meetings) of the segments of a window; raise LimitExceeded for too many passes."""
    parts = spans_in(race, begin, until)
    if many_of(parts) > MOST_PASSES:
        raise LimitExceeded(MOST_PASSES)
    return [(end, meetings_of(spans)) for end, spans in parts]


def spans_in(race, begin, until):
    """Return the tuples (end, spans) of the segments of a window."""
    parts = []
    for start, end, rows in segments(race, begin, until):
        parts.append((end, spans_of(pairs_in(rows, race.length), start, end)))
    return parts


def many_of(parts):
    """Return the number of the passes of tuples (end, spans)."""
    return sum([many_in(spans) for _, spans in parts])


def _found(pairs, begin, number):
    """Return the pass with a number after a time in a segment with so many passes."""
    low, high = bounds_of(pairs, begin, number)
    left = number - many_in(spans_of(pairs, begin, low))
    for time, passed in meetings_of(spans_of(pairs, low, high)):
        if left <= len(passed):
            over, under = passed[left - 1]
            return (time, over, under)
        left -= len(passed)
