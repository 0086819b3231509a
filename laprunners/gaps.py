"""The times at which the gap from a runner to another one comes to a value."""

from laprunners.checks import as_time, as_window
from laprunners.errors import InvalidGap, InvalidNumber, LimitExceeded
from laprunners.ratios import as_ratio, compare
from laprunners.stretches import count_at, count_in, counter_of, stretches, time_of
from laprunners.tracks import part_of

MOST_TIMES = 2000


def count_gap(race, first, second, value, start, end):
    """Return how often the gap comes to a value in a window."""
    return sum([count_in(counter) for counter in _counters(race, first, second, value, start, end)])


def gap_times(race, first, second, value, start, end):
    """Return the times at which the gap comes to a value in a window, ascending."""
    counters = _counters(race, first, second, value, start, end)
    if sum([count_in(counter) for counter in counters]) > MOST_TIMES:
        raise LimitExceeded(MOST_TIMES)
    found = []
    for counter in counters:
        counts = range(count_at(counter, counter[0]) + 1, count_at(counter, counter[1]) + 1)
        found.extend([time_of(counter, count) for count in counts])
    return found


def first_gap_time(race, first, second, value, after):
    """Return the first time after a time at which the gap comes to a value, or None."""
    tracks = (race.track(first), race.track(second))
    number = _as_gap(race, value)
    for counter in _counters_of(race, tracks, number, as_time(after), None):
        time = time_of(counter, count_at(counter, counter[0]) + 1)
        if counter[1] is None or compare(time, counter[1]) <= 0:
            return time
    return None


def _counters(race, first, second, value, start, end):
    """Return the counters of a window; check all arguments in their order."""
    tracks = (race.track(first), race.track(second))
    number = _as_gap(race, value)
    begin, until = as_window(start, end)
    return _counters_of(race, tracks, number, begin, until)


def _counters_of(race, tracks, value, start, end):
    """Return the counters of two tracks within a window; without an end, it is None."""
    first, second = [part_of(track, start, end) for track in tracks]
    return [counter_of(stretch, value, race.length) for stretch in stretches(first, second, start, end)]


def _as_gap(race, value):
    """Return a gap of the ring of a race as a ratio."""
    try:
        number = as_ratio(value)
    except InvalidNumber:
        raise InvalidGap() from None
    if number[0] < 0 or compare(number, race.length) >= 0:
        raise InvalidGap()
    return number
