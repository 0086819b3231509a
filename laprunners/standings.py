"""The order of the runners at a time, and the gaps between them."""

from laprunners.checks import as_time, need_name
from laprunners.ratios import in_order, minus, remainder


def standing(race, time):
    """Return the tuples (place, names) of the places at which runners are, ascending."""
    moment = as_time(time)
    return _grouped({name: race.place(name, moment) for name in race.names()})


def order_after(race, time):
    """Return the lists of names with equal place and speed just after a time."""
    rows = []
    for _, names in standing(race, time):
        speeds = {name: race.speed(name, time) for name in names}
        for _, same_speed in _grouped(speeds):
            rows.append(same_speed)
    return rows


def gap(race, first, second, time):
    """Return the distance forward from the first runner to the second one."""
    need_name(race, first)
    need_name(race, second)
    moment = as_time(time)
    return remainder(minus(race.position(second, moment), race.position(first, moment)), race.length)


def runners_ahead(race, name, time):
    """Return (gap, names) of the runners with the smallest gap greater than 0, or None."""
    need_name(race, name)
    moment = as_time(time)
    rows = _grouped({other: gap(race, name, other, moment) for other in race.names()})
    # The first row has the gap 0, as the runner itself has it.
    return rows[1] if len(rows) > 1 else None


def _grouped(numbers):
    """Return the tuples (number, names with it) of a dict from sorted names to ratios, ascending."""
    groups = {}
    for name, number in numbers.items():
        groups.setdefault(number, []).append(name)
    return [(number, groups[number]) for number in in_order(list(groups))]
