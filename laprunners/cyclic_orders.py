"""The order of the runners around the ring, and the times at which it changes."""

from laprunners.checks import as_time, as_window
from laprunners.errors import InvalidCount, InvalidOrder, LimitExceeded, Tied
from laprunners.events import MOST_PASSES, meetings_in
from laprunners.passes import all_passes
from laprunners.ratios import is_integer, is_less, lesser, plus
from laprunners.segments import bounds_of, meetings_of, pairs_in, segments, spans_of
from laprunners.standings import order_after
from laprunners.turns import last_turn, period_from

# A search looks at about so many passes at once.
FEW = 16


def cyclic_order(race, time):
    """Return the order around the ring just after a time, beginning with the least name."""
    order = []
    for group in order_after(race, time):
        if len(group) > 1:
            raise Tied(group[0], group[1])
        order.append(group[0])
    return _from_least(order)


def order_changes(race, start, end):
    """Return the tuples (time, order) just after the start of a window, then just after each time of its passes."""
    begin, until = as_window(start, end)
    parts = meetings_in(race, begin, until)
    order = cyclic_order(race, begin)
    found = [(begin, order)]
    for stop, meetings in parts:
        for time, passed in meetings:
            order = _order_after(race, order, time, passed, stop)
            found.append((time, order))
    return found


def first_order(race, order, *, after=0, most=500):
    """Return the first time, from a given one on, just after which the runners have an order, or None."""
    wanted, start = _as_order(race, order), as_time(after)
    if not is_integer(most) or not 1 <= most <= MOST_PASSES:
        raise InvalidCount()
    now, looked = cyclic_order(race, start), 0
    if now == wanted:
        return start
    end = _end_of_search(race, start)
    for begin, stop, rows in segments(race, start, end):
        pairs, low = pairs_in(rows, race.length), begin
        while pairs and is_less(low, stop):
            high = lesser(bounds_of(pairs, low, FEW)[1], stop)
            for time, passed in meetings_of(spans_of(pairs, low, high)):
                now, looked = _order_after(race, now, time, passed, stop), looked + len(passed)
                if now == wanted:
                    return time
                if looked >= most:
                    return _given_up(race, time, end, most)
            low = high
    return None


def _as_order(race, value):
    """Return an order of the runners of a race, beginning with the least name."""
    if not isinstance(value, (list, tuple)) or len(value) != len(race) or not all([name in race for name in value]):
        raise InvalidOrder()
    if sorted(value) != race.names():
        raise InvalidOrder()
    return _from_least(list(value))


def _from_least(order):
    """Return an order, a list of names, beginning with the least name."""
    at = order.index(min(order))
    return order[at:] + order[:at]


def _order_after(race, order, time, passed, stop):
    """Return the order just after the passes at a time, in a segment that ends at stop, from the order before."""
    # Only at the end of a segment can speeds change, so that a runner falls back after a pass.
    if time == stop:
        return cyclic_order(race, time)
    steps = {}
    for over, under in passed:
        steps[over] = steps.get(over, 0) + 1
        steps[under] = steps.get(under, 0) - 1
    places = {(at + steps.get(name, 0)) % len(order): name for at, name in enumerate(order)}
    return _from_least([places[at] for at in range(len(order))])


def _end_of_search(race, start):
    """Return the end of the first period after the last turn, or after a time if no turn comes after it."""
    turn = last_turn(race, start, None)
    begin = start if turn is None else turn
    period = period_from(race, begin)
    return begin if period is None else plus(begin, period)


def _given_up(race, time, end, most):
    """Return None if there are no passes after a time up to an end; otherwise raise LimitExceeded."""
    if all_passes(race, time, end) > 0:
        raise LimitExceeded(most)
    return None
