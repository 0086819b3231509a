"""Races: runners on a ring, each with pieces of constant speed."""

from laprunners.checks import as_time, is_name, is_positive
from laprunners.errors import InvalidFactor, InvalidLength, InvalidNames, InvalidNumber, InvalidRunner, UnknownName
from laprunners.ratios import as_ratio, compare, divided, in_order, minus, plus, reduced, remainder, times
from laprunners.tracks import laps_in, place_in, position_in, row_at, track_of

MOST_RUNNERS = 12
MOST_PIECES = 20


class Race:
    """A race that never changes."""

    def __init__(self, length, runners):
        if not is_positive(length):
            raise InvalidLength()
        if not isinstance(runners, dict) or not 1 <= len(runners) <= MOST_RUNNERS:
            raise InvalidRunner(None)
        self._length = as_ratio(length)
        tracks = {name: _track(name, runner, length) for name, runner in runners.items()}
        self._tracks = {name: tracks[name] for name in sorted(tracks)}

    def __eq__(self, other):
        return isinstance(other, Race) and self._length == other._length and self._tracks == other._tracks

    def __len__(self):
        return len(self._tracks)

    def __contains__(self, name):
        return isinstance(name, str) and name in self._tracks

    @property
    def length(self):
        """The length of the ring, a ratio."""
        return self._length

    def names(self):
        """Return the sorted list of all names."""
        return list(self._tracks)

    def track(self, name):
        """Return the track of a runner, as described in tracks.py."""
        if name not in self:
            raise UnknownName(name)
        return self._tracks[name]

    def tracks(self):
        """Return the dict from all names, sorted, to the tracks."""
        return dict(self._tracks)

    def start(self, name):
        """Return the place of a runner at time 0."""
        _, _, _, base, unit = self.track(name)[0]
        return reduced(base, unit)

    def pieces(self, name):
        """Return the tuples (time, speed) of a runner."""
        return [(row[0], row[1]) for row in self.track(name)]

    def change_times(self):
        """Return the times after 0 at which pieces begin, ascending."""
        return in_order([row[0] for name in self._tracks for row in self._tracks[name][1:]])

    def position(self, name, time):
        """Return the start of a runner plus the distance run up to a time."""
        track, moment = self.track(name), as_time(time)
        top, bottom = position_in(row_at(track, moment), moment)
        return reduced(top, bottom)

    def place(self, name, time):
        """Return the place of a runner at a time."""
        track, moment = self.track(name), as_time(time)
        return place_in(row_at(track, moment), moment, self._length)

    def laps(self, name, time):
        """Return how many whole lengths the position of a runner contains at a time."""
        track, moment = self.track(name), as_time(time)
        return laps_in(row_at(track, moment), moment, self._length)

    def speed(self, name, time):
        """Return the speed of a runner from a time on."""
        track, moment = self.track(name), as_time(time)
        return row_at(track, moment)[1]

    def changed(self, name, time, speed):
        """Return the race in which a runner has a speed from a time on."""
        pieces = self.pieces(name)
        moment = as_time(time)
        last_piece = (moment, as_ratio(speed))
        kept = [piece for piece in pieces if compare(piece[0], moment) < 0]
        runners = self._runners()
        # The new race refuses this runner if there are now too many pieces.
        runners[name] = (self.start(name), [*kept, last_piece])
        return Race(self._length, runners)

    def without(self, name):
        """Return the race without a runner."""
        if name not in self:
            raise UnknownName(name)
        runners = self._runners()
        # The new race refuses to have no runners.
        del runners[name]
        return Race(self._length, runners)

    def renamed(self, names):
        """Return the race with the new names of a dict from all names."""
        if not _are_new_names(self, names):
            raise InvalidNames()
        runners = self._runners()
        return Race(self._length, {names[name]: runners[name] for name in runners})

    def turned(self, shift):
        """Return the race in which all starts are moved forward by a distance."""
        distance = as_ratio(shift)
        moved = {}
        for name, (start, pieces) in self._runners().items():
            moved[name] = (plus(start, distance), pieces)
        return Race(self._length, moved)

    def reversed_ring(self):
        """Return the race in which starts and speeds are replaced by their negatives."""
        backward = {}
        for name, (start, pieces) in self._runners().items():
            backward_pieces = [(time, minus(0, speed)) for time, speed in pieces]
            backward[name] = (minus(0, start), backward_pieces)
        return Race(self._length, backward)

    def slowed(self, factor):
        """Return the race in which everything takes longer by a factor."""
        if not is_positive(factor):
            raise InvalidFactor()
        slower = {}
        for name, (start, pieces) in self._runners().items():
            slow_pieces = [(times(time, factor), divided(speed, factor)) for time, speed in pieces]
            slower[name] = (start, slow_pieces)
        return Race(self._length, slower)

    def _runners(self):
        """Return a new dict from the names to the tuples (start, pieces)."""
        return {name: (self.start(name), self.pieces(name)) for name in self._tracks}


def _track(name, runner, length):
    """Return the track of a runner on a ring; raise InvalidRunner unless the name and the runner are valid."""
    if not is_name(name) or not _is_runner(runner):
        raise InvalidRunner(name)
    try:
        start = remainder(runner[0], length)
        pieces = [(as_ratio(time), as_ratio(speed)) for time, speed in runner[1]]
    except InvalidNumber:
        raise InvalidRunner(name) from None
    if not _are_ascending([time for time, _ in pieces]):
        raise InvalidRunner(name)
    return track_of(start, pieces)


def _is_runner(value):
    """Tell whether a value is a tuple (start, pieces) in its form; its numbers are not looked at."""
    if not isinstance(value, tuple) or len(value) != 2:
        return False
    pieces = value[1]
    if not isinstance(pieces, (list, tuple)) or not 1 <= len(pieces) <= MOST_PIECES:
        return False
    return all([isinstance(piece, tuple) and len(piece) == 2 for piece in pieces])


def _are_ascending(begins):
    """Tell whether the times at which pieces begin are strictly ascending from 0 on."""
    if begins[0] != (0, 1):
        return False
    return all([one[0] * two[1] < two[0] * one[1] for one, two in zip(begins, begins[1:])])


def _are_new_names(race, value):
    """Tell whether a value is a dict from all names of a race to distinct names."""
    if not isinstance(value, dict) or len(value) != len(race):
        return False
    new_names = list(value.values())
    if not all([name in race for name in value]) or not all([is_name(name) for name in new_names]):
        return False
    return len(set(new_names)) == len(new_names)
