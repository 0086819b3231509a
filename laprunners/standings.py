"""The order of the runners at a time, and the gaps between them."""

from laprunners.checks import as_time
from laprunners.ratios import ascending, reduced
from laprunners.tracks import place_in, position_in, row_at


def standing(race, time):
    """Return the tuples (place, names) of the places at which runners are, ascending."""
    moment, length = as_time(time), race.length
    groups = {}
    for name, track in race.tracks().items():
        place = place_in(row_at(track, moment), moment, length)
        groups.setdefault(place, []).append(name)
    return [(place, groups[place]) for place in ascending(list(groups))]


def order_after(race, time):
    """Return the lists of names with equal place and speed just after a time."""
    moment, length = as_time(time), race.length
    groups = {}
    for name, track in race.tracks().items():
        row = row_at(track, moment)
        speeds = groups.setdefault(place_in(row, moment, length), {})
        speeds.setdefault(row[1], []).append(name)
    places = [groups[place] for place in ascending(list(groups))]
    return [group[speed] for group in places for speed in ascending(list(group))]


def gap(race, first, second, time):
    """Return the distance forward from the first runner to the second one."""
    behind, ahead = race.track(first), race.track(second)
    moment = as_time(time)
    top, bottom = _distance(row_at(behind, moment), row_at(ahead, moment), moment, race.length)
    return reduced(top, bottom)


def runners_ahead(race, name, time):
    """Return (gap, names) of the runners with the smallest gap greater than 0, or None."""
    own = race.track(name)
    moment, length = as_time(time), race.length
    row = row_at(own, moment)
    least, names = (0, 1), []
    for other, track in race.tracks().items():
        top, bottom = _distance(row, row_at(track, moment), moment, length)
        side = top * least[1] - least[0] * bottom
        if top > 0 and (side < 0 or not names):
            least, names = (top, bottom), [other]
        elif top > 0 and side == 0:
            names.append(other)
    return (reduced(least[0], least[1]), names) if names else None


def _distance(behind, ahead, time, length):
    """Return two integers, whose quotient is the distance forward from one row to another one at a time."""
    top, bottom = position_in(behind, time)
    other_top, other_bottom = position_in(ahead, time)
    length_top, length_bottom = length
    unit = bottom * other_bottom
    return (other_top * bottom - top * other_bottom) * length_bottom % (length_top * unit), unit * length_bottom
