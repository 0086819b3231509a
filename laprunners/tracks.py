"""Tracks: where a runner is at any time.

A track is a tuple of rows (begin, speed, rate, base, unit), one for each piece of a runner. From the time begin on,
until the next row, the runner has the speed, and the position at a time t is (rate * t + base) / unit.
"""

from math import gcd

from laprunners.ratios import is_less, reduced


def track_of(start, pieces):
    """Return the track of a runner with a place to start at, and with pieces whose times and speeds are ratios."""
    top, bottom = start
    # The position at the beginning of each piece is top / bottom.
    rows = []
    for begin, speed in pieces:
        if rows:
            top, bottom = position_in(rows[-1], begin)
        rows.append((begin, speed, *_line(begin, speed, top, bottom)))
    return tuple(rows)


def _line(begin, speed, top, bottom):
    """Return (rate, base, unit) of a piece that begins at the position top / bottom."""
    begin_top, begin_bottom = begin
    speed_top, speed_bottom = speed
    rate = speed_top * begin_bottom * bottom
    base = top * begin_bottom * speed_bottom - speed_top * begin_top * bottom
    unit = begin_bottom * speed_bottom * bottom
    divisor = gcd(rate, base, unit)
    return rate // divisor, base // divisor, unit // divisor


def row_at(track, time):
    """Return the row whose speed holds from a time on."""
    top, bottom = time
    found = track[0]
    for row in track:
        begin_top, begin_bottom = row[0]
        if begin_top * bottom > top * begin_bottom:
            break
        found = row
    return found


def row_before(track, time):
    """Return the row whose speed holds just before a time greater than 0."""
    return [row for row in track if is_less(row[0], time)][-1]


def lead_of(row, other, length):
    """Return (rate, base, unit) of the lead of a row over another one.

    The position of the first row minus that of the other one is (rate * t + base) / unit lengths at a time t, and unit
    is greater than 0.
    """
    _, _, rate, base, unit = row
    _, _, other_rate, other_base, other_unit = other
    length_top, length_bottom = length
    divisor = gcd(unit, other_unit)
    share, other_share = other_unit // divisor, unit // divisor
    growth, lead = rate * share - other_rate * other_share, base * share - other_base * other_share
    return growth * length_bottom, lead * length_bottom, unit * share * length_top


def position_in(row, time):
    """Return two integers, whose quotient is the position of a row at a time; the second one is greater than 0."""
    top, bottom = time
    _, _, rate, base, unit = row
    return rate * top + base * bottom, unit * bottom


def place_in(row, time, length):
    """Return the place of a row at a time."""
    top, bottom = position_in(row, time)
    length_top, length_bottom = length
    return reduced(top * length_bottom % (length_top * bottom), bottom * length_bottom)


def laps_in(row, time, length):
    """Return the laps of a row at a time."""
    top, bottom = position_in(row, time)
    length_top, length_bottom = length
    return top * length_bottom // (length_top * bottom)


def part_of(track, start, end):
    """Return the list of the rows of a track with speeds that a runner has within a window, or up to any time."""
    rows = []
    for row in track:
        begin = row[0]
        if not is_less(start, begin):
            rows = [row]
        elif end is None or is_less(begin, end):
            rows.append(row)
    return rows
