"""Races: runners on a ring, each with pieces of constant speed."""

from laprunners.checks import as_time, is_name, is_positive, need_name
from laprunners.errors import InvalidFactor, InvalidLength, InvalidNames, InvalidRunner
from laprunners.ratios import as_ratio, compare, divided, floor_of, in_order, is_number
from laprunners.ratios import minus, plus, remainder, times

MOST_RUNNERS = 12
MOST_PIECES = 20


class Race:
    """A race that never changes."""

    def __init__(self, length, runners):
        if not is_positive(length):
            raise InvalidLength()
        if not isinstance(runners, dict) or not 1 <= len(runners) <= MOST_RUNNERS:
            raise InvalidRunner(None)
        self._length = as_ratio(length)
        # For each name the rows (time, speed, position at this time) of its pieces.
        self._tracks = {}
        for name, runner in runners.items():
            if not is_name(name) or not _is_runner(runner):
                raise InvalidRunner(name)
            start, pieces = runner
            self._tracks[name] = _track(remainder(start, length), pieces)

    def __eq__(self, other):
        return isinstance(other, Race) and self._length == other._length and self._tracks == other._tracks

    def __len__(self):
        return len(self._tracks)

    def __contains__(self, name):
        return isinstance(name, str) and name in self._tracks

    @property
    def length(self):
        """The length of the ring, a ratio."""
        return self._length

    def names(self):
        """Return the sorted list of all names."""
        return sorted(self._tracks)

    def start(self, name):
        """Return the place of a runner at time 0."""
        need_name(self, name)
        return self._tracks[name][0][2]

    def pieces(self, name):
        """Return the tuples (time, speed) of a runner."""
        need_name(self, name)
        return [(time, speed) for time, speed, _ in self._tracks[name]]

    def change_times(self):
        """Return the times after 0 at which pieces begin, ascending."""
        later = [row[0] for name in self.names() for row in self._tracks[name][1:]]
        return in_order(later)

    def position(self, name, time):
        """Return the start of a runner plus the distance run up to a time."""
        need_name(self, name)
        moment = as_time(time)
        return _position(_row_at(self._tracks[name], moment), moment)

    def place(self, name, time):
        """Return the place of a runner at a time."""
        return remainder(self.position(name, time), self._length)

    def laps(self, name, time):
        """Return how many whole lengths the position of a runner contains at a time."""
        return floor_of(divided(self.position(name, time), self._length))

    def speed(self, name, time):
        """Return the speed of a runner from a time on."""
        need_name(self, name)
        return _row_at(self._tracks[name], as_time(time))[1]

    def changed(self, name, time, speed):
        """Return the race in which a runner has a speed from a time on."""
        need_name(self, name)
        moment = as_time(time)
        last_piece = (moment, as_ratio(speed))
        kept = [piece for piece in self.pieces(name) if compare(piece[0], moment) < 0]
        runners = self._runners()
        # The new race refuses this runner if there are now too many pieces.
        runners[name] = (self.start(name), [*kept, last_piece])
        return Race(self._length, runners)

    def without(self, name):
        """Return the race without a runner."""
        need_name(self, name)
        runners = self._runners()
        # The new race refuses to have no runners.
        del runners[name]
        return Race(self._length, runners)

    def renamed(self, names):
        """Return the race with the new names of a dict from all names."""
        if not _are_new_names(self, names):
            raise InvalidNames()
        runners = self._runners()
        return Race(self._length, {names[name]: runners[name] for name in runners})

    def turned(self, shift):
        """Return the race in which all starts are moved forward by a distance."""
        distance = as_ratio(shift)
        moved = {}
        for name, (start, pieces) in self._runners().items():
            moved[name] = (plus(start, distance), pieces)
        return Race(self._length, moved)

    def reversed_ring(self):
        """Return the race in which starts and speeds are replaced by their negatives."""
        backward = {}
        for name, (start, pieces) in self._runners().items():
            backward_pieces = [(time, minus(0, speed)) for time, speed in pieces]
            backward[name] = (minus(0, start), backward_pieces)
        return Race(self._length, backward)

    def slowed(self, factor):
        """Return the race in which everything takes longer by a factor."""
        if not is_positive(factor):
            raise InvalidFactor()
        slower = {}
        for name, (start, pieces) in self._runners().items():
            slow_pieces = [(times(time, factor), divided(speed, factor)) for time, speed in pieces]
            slower[name] = (start, slow_pieces)
        return Race(self._length, slower)

    def _runners(self):
        """Return a new dict from the names to the tuples (start, pieces)."""
        return {name: (self.start(name), self.pieces(name)) for name in self.names()}


def _is_runner(value):
    """Tell whether a value is a tuple (start, pieces)."""
    if not isinstance(value, tuple) or len(value) != 2:
        return False
    return is_number(value[0]) and _are_pieces(value[1])


def _are_pieces(value):
    """Tell whether a value is a list or tuple of pieces that begin at 0 and ascend."""
    if not isinstance(value, (list, tuple)) or not 1 <= len(value) <= MOST_PIECES:
        return False
    if not all([_is_piece(piece) for piece in value]):
        return False
    begins = [piece[0] for piece in value]
    # Ratios in order are without duplicates, so the times are strictly ascending.
    return compare(begins[0], 0) == 0 and in_order(begins) == [as_ratio(time) for time in begins]


def _is_piece(value):
    """Tell whether a value is a tuple (time, speed) of numbers."""
    return isinstance(value, tuple) and len(value) == 2 and is_number(value[0]) and is_number(value[1])


def _are_new_names(race, value):
    """Tell whether a value is a dict from all names of a race to distinct names."""
    if not isinstance(value, dict) or len(value) != len(race):
        return False
    new_names = list(value.values())
    if not all([name in race for name in value]) or not all([is_name(name) for name in new_names]):
        return False
    return len(set(new_names)) == len(new_names)


def _track(start, pieces):
    """Return the rows (time, speed, position at this time) of a runner."""
    rows = [((0, 1), as_ratio(pieces[0][1]), start)]
    for time, speed in pieces[1:]:
        rows.append((as_ratio(time), as_ratio(speed), _position(rows[-1], time)))
    return rows


def _row_at(rows, time):
    """Return the row whose speed holds from a time on."""
    found = rows[0]
    for row in rows:
        if compare(row[0], time) <= 0:
            found = row
    return found


def _position(row, time):
    """Return the position at a time at which the speed of a row holds, or its end."""
    begin, speed, position = row
    return plus(position, times(speed, minus(time, begin)))
