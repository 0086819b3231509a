"""Refusals: tuples of one integer for each of some conditions, which show that not all of them can hold."""

from laprunners.ratios import is_integer


def refusal_of(many, given):
    """Return a tuple of so many integers, with those of a dict at their indexes, and otherwise with zeros."""
    return tuple([given.get(at, 0) for at in range(many)])


def sums_of(value, growths, lacks):
    """Return the sums of the integers of a value times the growths and times the lacks of the conditions.

    If the value is not a tuple of one integer for each condition, return None.
    """
    if not isinstance(value, tuple) or len(value) != len(growths) or not all([is_integer(item) for item in value]):
        return None
    return (
        sum([item * growth for item, growth in zip(value, growths)]),
        sum([item * lack for item, lack in zip(value, lacks)]),
    )
