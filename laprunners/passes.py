"""How often runners pass each other. Passes are counted without listing them."""

from laprunners.checks import as_window
from laprunners.stretches import count_in, counter_of, stretches
from laprunners.tracks import part_of

SAME_PLACE = (0, 1)


def passes(race, over, under, start, end):
    """Return how often a runner passes another one in a window."""
    fast, slow = race.track(over), race.track(under)
    begin, until = as_window(start, end)
    rows = _counted(part_of(slow, begin, until), part_of(fast, begin, until), begin, until, race.length)
    return sum([count for rate, count in rows if rate > 0])


def pass_table(race, start, end):
    """Return the dict from the pairs (over, under) with passes in a window to their numbers."""
    table = {}
    for pair, count in _pair_counts(race, start, end):
        table[pair] = table.get(pair, 0) + count
    return {pair: table[pair] for pair in sorted(table) if table[pair] > 0}


def all_passes(race, start, end):
    """Return the number of all passes in a window."""
    return sum([count for _, count in _pair_counts(race, start, end)])


def _pair_counts(race, start, end):
    """Return tuples ((over, under), count), one or more for each two runners with different speeds in a window."""
    begin, until = as_window(start, end)
    parts = {name: part_of(track, begin, until) for name, track in race.tracks().items()}
    names, rows = list(parts), []
    for at, first in enumerate(names):
        for second in names[at + 1:]:
            for rate, count in _counted(parts[first], parts[second], begin, until, race.length):
                pair = (second, first) if rate > 0 else (first, second)
                rows.append((pair, count))
    return rows


def _counted(first, second, start, end, length):
    """Return the tuples (rate, count) of the stretches of two runners: how often they meet, and who is faster."""
    rows = stretches(first, second, start, end)
    return [(row[2], count_in(counter_of(row, SAME_PLACE, length))) for row in rows]
