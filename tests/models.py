"""Models of what the program finds at once: they go through passes, times and speeds one by one, in fractions."""

from fractions import Fraction

from tests.support import fraction, model_meetings, model_passes, model_position, model_speed, pairs_of, ratio_of


def model_events(length, runners, start, end):
    """The passes (time, over, under) of a window in order, with fractions as times."""
    found = []
    for over, under in pairs_of(runners):
        times = model_passes(length, runners, over, under, start, end)
        found += [(time, over, under) for time in times]
    return sorted(found)


def place_of(length, runners, name, time):
    """The place of a runner at a time, a fraction."""
    return model_position(length, runners[name], ratio_of(time)) % fraction(length)


def begins_of(runners, names):
    """The times at which pieces of runners begin, ascending."""
    return sorted({fraction(piece[0]) for name in names for piece in runners[name][1]})


def is_reached(length, runners, goal, time):
    """Whether a goal is reached at a time."""
    places = [place_of(length, runners, name, time) for name in goal]
    if isinstance(goal, dict):
        return places == [fraction(goal[name]) % fraction(length) for name in goal]
    return len(set(places)) == 1


def times_by_steps(length, runners, goal, start, end, steps):
    """The times of a window at which a goal is reached; so many small steps of time are one unit."""
    low, high = fraction(start) * steps, fraction(end) * steps
    times = [Fraction(at, steps) for at in range(low.__floor__() + 1, high.__floor__() + 1)]
    return [time for time in times if is_reached(length, runners, goal, time)]


def standing_runners(runners, goal):
    """The runners, and one who stands at each wanted place of a goal that is a dict, with an upper-case name."""
    return {**runners, **{name.upper(): (place, [(0, 0)]) for name, place in goal.items()}}


def goal_pairs(runners, goal):
    """The runners and the pairs of runners who meet when a goal is reached."""
    if isinstance(goal, dict):
        return standing_runners(runners, goal), [(name, name.upper()) for name in goal]
    return runners, [(goal[0], name) for name in goal[1:]]


def times_of_goal(length, runners, goal, start, end):
    """The times of a window at which a goal is reached and some of its speeds differ just before."""
    more, pairs = goal_pairs(runners, goal)
    found = {time for pair in pairs for time, _ in model_meetings(length, more, pair, 0, start, end)}
    return sorted(time for time in found if is_reached(length, runners, goal, time))


def part_kinds(length, runners, goal):
    """The tuples (begin, end, always) of the parts of a goal: whether it is always reached; the last end is None."""
    begins = begins_of(runners, goal)
    found = []
    for begin, end in zip(begins, begins[1:] + [None]):
        middle = begin + 1 if end is None else (begin + end) / 2
        last = begin + 2 if end is None else end
        thirds = [begin + (last - begin) * Fraction(share, 7919) for share in (1, 2, 5000)]
        always = all(is_reached(length, runners, goal, time) for time in [begin, middle, last, *thirds])
        found.append((begin, end, always))
    return found


def together_in(length, runners, goal, start, end):
    """The time from which on a goal stays reached in a window, or None; the end of the window may be None."""
    for begin, until, always in part_kinds(length, runners, goal):
        starts = max(begin, fraction(start))
        if always and (until is None or starts < until) and (end is None or starts < fraction(end)):
            return starts
    return None


def model_order(length, runners, time):
    """The order just after a time, or the two names of Tied as a tuple."""
    now, ring = fraction(time), fraction(length)
    places = {name: place_of(length, runners, name, now) for name in runners}
    speeds = {name: model_speed(runners[name], ratio_of(now)) for name in runners}
    groups = {}
    for name in sorted(runners):
        groups.setdefault((places[name], speeds[name]), []).append(name)
    ties = [groups[key] for key in sorted(groups) if len(groups[key]) > 1]
    if ties:
        return tuple(ties[0][:2])
    distances = {(places[one] - places[two]) % ring for one in runners for two in runners} - {0}
    fastest = max([abs(speed) for speed in speeds.values()]) + 1
    later = [begin for begin in begins_of(runners, runners) if begin > now]
    # So soon after the time nobody has run a quarter of any distance, and no speed has changed.
    soon = min([*[distance / (8 * fastest) for distance in distances], ring / (8 * fastest),
                *[(begin - now) / 2 for begin in later]])
    order = sorted(runners, key=lambda name: place_of(length, runners, name, now + soon))
    at = order.index(min(order))
    return order[at:] + order[:at]


def model_turns(runners):
    """The times greater than 0 from which on a runner has another speed than just before, ascending."""
    found = set()
    for _, pieces in runners.values():
        for before, piece in zip(pieces, pieces[1:]):
            if fraction(before[1]) != fraction(piece[1]):
                found.add(fraction(piece[0]))
    return sorted(found)


def model_period(length, runners, time):
    """The period of all distances after a time, found by trying one multiple after the other; None at equal speeds."""
    speeds = [model_speed(runner, ratio_of(time)) for runner in runners.values()]
    rates = [one - two for one in speeds for two in speeds if one > two]
    count = 1
    while rates:
        period = count * fraction(length) / rates[0]
        if all((rate * period / fraction(length)).denominator == 1 for rate in rates):
            return period
        count += 1
    return None


def model_first_order(length, runners, order, after, most):
    """What first_order finds: a time, None, the two names of Tied in a tuple, or the word limit."""
    start = fraction(after)
    begin = max([start, *model_turns(runners)])
    end = begin + (model_period(length, runners, begin) or 0)
    events = model_events(length, runners, ratio_of(start), ratio_of(end))
    at = order.index(min(order))
    wanted = order[at:] + order[:at]
    for time in [start, *sorted({event[0] for event in events})]:
        now = model_order(length, runners, ratio_of(time))
        if isinstance(now, tuple) or now == wanted:
            return now if isinstance(now, tuple) else time
        if len([event for event in events if event[0] <= time]) >= most:
            return "limit" if events[-1][0] > time else None
    return None


def model_handovers(length, runners, events, name):
    """The handovers (time, giver, taker) at the passes of a window, with fractions as times."""
    holder, found = name, []
    for time in sorted({event[0] for event in events}):
        places = {who: place_of(length, runners, who, time) for who in runners}
        here = sorted(who for who in runners if places[who] == places[holder])
        if any(event[0] == time and event[1] in here for event in events):
            taker = here[(here.index(holder) + 1) % len(here)]
            found.append((time, holder, taker))
            holder = taker
    return found


def model_map(length, runners, events):
    """The map of a window with these passes."""
    found = {}
    for name in sorted(runners):
        rows = model_handovers(length, runners, events, name)
        found[name] = rows[-1][2] if rows else name
    return found


def fitting_by_trying(length, observations, low, high):
    """The speeds from low to high that fit."""
    return [speed for speed in range(low, high + 1)
            if all((time * speed - place) % length == 0 for time, place in observations)]


def look_by_trying(length, speeds, after):
    """The least time after another one at which speeds lead to different places, or None."""
    for time in range(after + 1, after + length + 1):
        if len({time * speed % length for speed in speeds}) == len(speeds):
            return time
    return None
