"""Observations: which speeds of a runner on a ring of integer length fit what was seen."""

from math import gcd

from laprunners.congruences import common, solved
from laprunners.errors import InvalidLength, InvalidNumber, InvalidObservation, InvalidTime, LimitExceeded, NoSpeed
from laprunners.ratios import is_integer
from laprunners.refusals import refusal_of, sums_of

MOST_OBSERVATIONS = 50
MOST_SPEEDS = 2000


def fitting_speeds(length, observations):
    """Return (remainder, modulus) of the speeds that fit."""
    _check(length, observations)
    found = _fitting(length, observations)
    if found is None:
        raise NoSpeed(_refusal(length, observations))
    return found


def is_no_speed(length, observations, value):
    """Tell whether a value is a refusal of observations."""
    _check(length, observations)
    sums = sums_of(value, [time for time, _ in observations], [place for _, place in observations])
    return sums is not None and sums[0] % length == 0 and sums[1] % length != 0


def count_speeds(length, observations, low, high):
    """Return how many speeds from low to high fit."""
    _, _, many = _speeds(length, observations, low, high)
    return many


def speeds_between(length, observations, low, high):
    """Return the speeds from low to high that fit, ascending."""
    first, step, many = _speeds(length, observations, low, high)
    if many > MOST_SPEEDS:
        raise LimitExceeded(MOST_SPEEDS)
    return [first + step * at for at in range(many)]


def next_look(length, observations, low, high, *, after=0):
    """Return the least integer time after a time at which no two fitting speeds lead to one place, or None."""
    _, step, many = _speeds(length, observations, low, high)
    if not is_integer(after) or after < 0:
        raise InvalidTime()
    # Speeds that are a multiple of so many steps apart, and at time 1 no other ones, lead to the same place.
    circle = length // step
    if many > circle:
        return None
    time = after + 1
    # At a time, circle // gcd(time, circle) neighboring speeds lead to different places. The search is short: even the
    # times without a divisor in common with the circle are never far apart, seen against its number of digits.
    while gcd(time, circle) * many > circle:
        time += 1
    return time


def _check(length, observations):
    """Raise the error of a length or of observations that are not valid."""
    if not is_integer(length) or length < 1:
        raise InvalidLength()
    if not isinstance(observations, (list, tuple)) or len(observations) > MOST_OBSERVATIONS:
        raise InvalidObservation(None)
    for index, value in enumerate(observations):
        if not _is_observation(value):
            raise InvalidObservation(index)


def _is_observation(value):
    """Tell whether a value is a tuple (time, place) of integers, the time not below 0."""
    if not isinstance(value, tuple) or len(value) != 2:
        return False
    time, place = value
    return is_integer(time) and is_integer(place) and time >= 0


def _fitting(length, observations):
    """Return (remainder, modulus) of the speeds that fit, or None if there are none."""
    remainder, modulus = 0, 1
    for time, place in observations:
        one = solved(time, place, length)
        found = None if one is None else common(remainder, modulus, one[0], one[1])
        if found is None:
            return None
        modulus = found[1]
        remainder = found[0] % modulus
    return remainder, modulus


def _refusal(length, observations):
    """Return a refusal of observations that no speed fits."""
    seen = []
    for at, (time, place) in enumerate(observations):
        one = solved(time, place, length)
        if one is None:
            return refusal_of(len(observations), {at: length // gcd(time, length)})
        # Of speeds that fit each observation alone, some fit all of them if some fit each two of them.
        for before, (speed, modulus) in enumerate(seen):
            divisor = gcd(modulus, one[1])
            if (speed - one[0]) % divisor != 0:
                return refusal_of(len(observations), _conflict(length, observations, before, at, length // divisor))
        seen.append(one)


def _conflict(length, observations, before, at, distance):
    """Return the dict from the indexes of two observations to the integers of a refusal."""
    # With these factors, the times become the distance and its negative modulo the length; the places then become the
    # distance times the speeds that fit, which do not add up to a multiple of the length.
    factor, _ = solved(observations[before][0], distance, length)
    other_factor, _ = solved(observations[at][0], -distance, length)
    return {before: factor, at: other_factor}


def _speeds(length, observations, low, high):
    """Return (first, step, number) of the speeds from low to high that fit; check these arguments in their order."""
    _check(length, observations)
    if not is_integer(low) or not is_integer(high):
        raise InvalidNumber()
    found = _fitting(length, observations)
    if found is None:
        return low, 1, 0
    remainder, modulus = found
    first = low + (remainder - low) % modulus
    return first, modulus, max(0, (high - first) // modulus + 1)
