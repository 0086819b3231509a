"""Snapshots: what places and laps at two times tell about the passes between."""

from laprunners.checks import as_time, is_name
from laprunners.errors import InvalidSnapshot, Tied
from laprunners.ratios import in_order, is_integer, is_ratio
from laprunners.tracks import laps_in, place_in, row_at


class Snapshot:
    """The places and laps of some runners. A snapshot never changes."""

    def __init__(self, rows):
        if not isinstance(rows, dict) or not rows:
            raise InvalidSnapshot()
        if not all([is_name(name) and _is_row(rows[name]) for name in rows]):
            raise InvalidSnapshot()
        self._rows = {name: rows[name] for name in sorted(rows)}

    def __eq__(self, other):
        return isinstance(other, Snapshot) and self._rows == other._rows

    def __len__(self):
        return len(self._rows)

    def __contains__(self, name):
        return isinstance(name, str) and name in self._rows

    def __sub__(self, other):
        if not isinstance(other, Snapshot):
            raise InvalidSnapshot()
        after, before = self.rows(), other.rows()
        if list(after) != list(before):
            raise InvalidSnapshot()
        leads, earlier = _leads(after), _leads(before)
        return {pair: leads[pair] - earlier[pair] for pair in leads}

    def rows(self):
        """Return the dict from all names, sorted, to the tuples (place, laps)."""
        return dict(self._rows)


def snapshot(race, time):
    """Return the snapshot of a race at a time."""
    moment, length = as_time(time), race.length
    rows = {}
    for name, track in race.tracks().items():
        row = row_at(track, moment)
        rows[name] = (place_in(row, moment, length), laps_in(row, moment, length))
    return Snapshot(rows)


def pass_parity(after, before):
    """Return 1 if the number of all passes between two snapshots is odd, otherwise 0."""
    if not isinstance(after, Snapshot):
        raise InvalidSnapshot()
    net_passes = after - before
    # Two passes that cancel each other out do not change whether the number is odd.
    return sum(net_passes.values()) % 2


def _leads(rows):
    """Return the dict from each two names, sorted, to the whole lengths of the lead of the first over the second."""
    order = in_order([place for place, _ in rows.values()])
    ranks = {place: rank for rank, place in enumerate(order)}
    names = list(rows)
    leads = {}
    for at, first in enumerate(names):
        for second in names[at + 1:]:
            place, laps = rows[first]
            other_place, other_laps = rows[second]
            if place == other_place:
                raise Tied(first, second)
            # The lead is the next smaller integer if the first one is at the smaller place.
            behind = 1 if ranks[place] < ranks[other_place] else 0
            leads[(first, second)] = laps - other_laps - behind
    return leads


def _is_row(value):
    """Tell whether a value is a tuple (place, laps)."""
    if not isinstance(value, tuple) or len(value) != 2:
        return False
    place, laps = value
    return is_ratio(place) and place[0] >= 0 and is_integer(laps)
