"""Relays: the runners hand over a mark wherever they pass each other."""

from laprunners.checks import as_window
from laprunners.errors import LimitExceeded, UnknownName
from laprunners.events import MOST_PASSES, many_of, meetings_in, spans_in
from laprunners.ratios import divided, floor_of, is_less, minus, plus, times
from laprunners.segments import meetings_of
from laprunners.turns import last_turn, period_from


def relay_map(race, start, end):
    """Return the dict from each first holder to the holder just after a window."""
    begin, until = as_window(start, end)
    turn = last_turn(race, begin, until)
    if turn is None:
        return _steady_map(race, begin, until)
    return _joined(_map_of(race, begin, turn), _steady_map(race, turn, until))


def carrier(race, name, start, end):
    """Return the holder just after a window if a runner is the first holder."""
    if name not in race:
        raise UnknownName(name)
    return relay_map(race, start, end)[name]


def handovers(race, name, start, end):
    """Return the handovers (time, giver, taker) in a window if a runner is the first holder."""
    if name not in race:
        raise UnknownName(name)
    begin, until = as_window(start, end)
    holder, found = name, []
    for _, meetings in meetings_in(race, begin, until):
        for time, passed in meetings:
            taker = _takers(passed).get(holder, holder)
            if taker != holder:
                found.append((time, holder, taker))
            holder = taker
    return found


def _steady_map(race, begin, until):
    """Return the map of a window without a turn before its end."""
    parts = spans_in(race, begin, until)
    if many_of(parts) <= MOST_PASSES:
        return _followed(race, [meetings_of(spans) for _, spans in parts])
    period = period_from(race, begin)
    if is_less(until, plus(begin, period)):
        raise LimitExceeded(MOST_PASSES)
    # All distances, and so all passes and handovers, are repeated after each period.
    once = _map_of(race, begin, plus(begin, period))
    rounds = floor_of(divided(minus(until, begin), period))
    rest = _map_of(race, plus(begin, times(rounds, period)), until)
    return _joined(_repeated(once, rounds), rest)


def _map_of(race, begin, until):
    """Return the map of a window; raise LimitExceeded for too many passes."""
    return _followed(race, [meetings for _, meetings in meetings_in(race, begin, until)])


def _followed(race, parts):
    """Return the map of all meetings of a list of lists, one after the other."""
    holders = {name: name for name in race.names()}
    for meetings in parts:
        for _, passed in meetings:
            takers = _takers(passed)
            holders = {name: takers.get(holder, holder) for name, holder in holders.items()}
    return holders


def _takers(passed):
    """Return the dict from the names of all runners at the places of passes at one time to those who take the mark."""
    # Whoever is at the place of a pass has another speed than one of the two, so passes that one or is passed by it:
    # each place is a circle of all runners whom passes connect.
    circles = {}
    for over, under in passed:
        one, other = circles.get(over, [over]), circles.get(under, [under])
        if one != other:
            circle = sorted(one + other)
            for name in circle:
                circles[name] = circle
    return {name: circle[(circle.index(name) + 1) % len(circle)] for name, circle in circles.items()}


def _joined(first, second):
    """Return the map of two windows, one after the other."""
    return {name: second[holder] for name, holder in first.items()}


def _repeated(once, rounds):
    """Return the map of a window with a map, repeated for a number of rounds."""
    found, power, left = {name: name for name in once}, once, rounds
    while left:
        if left % 2 == 1:
            found = _joined(found, power)
        power, left = _joined(power, power), left // 2
    return found
