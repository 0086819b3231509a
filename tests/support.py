"""What several test files need: checks of errors, and a model of a race in fractions."""

import copy
import unittest
from fractions import Fraction

# A prime of thirty digits, so that it has no divisor in common with small numbers.
BIG = 10 ** 29 + 319
WRONG_KINDS = [True, False, None, "1", "", b"1", [], [1, 2], {}, (), (1,), (1, 2, 3), object]
NO_RATIOS = [
    (2, 4), (0, 2), (1, 0), (1, -1), (-3, -2), (0, 0), (True, 2), (1, True), (False, 1),
    ("1", 2), (1, None), ((1, 2), 1), (BIG * 3, 3),
]
NO_NUMBERS = WRONG_KINDS + NO_RATIOS
NO_TIMES = NO_NUMBERS + [-1, (-1, 2), -BIG, (-BIG, 7)]
NO_NAMES = [None, True, False, 0, 1, "", "zz", "A", "a ", b"a", (), ("a",), [], ["a"], {}, {"a": 1}, object]


def fraction(number):
    """The fraction of a number of the program."""
    if isinstance(number, tuple):
        return Fraction(number[0], number[1])
    return Fraction(number)


def ratio_of(value):
    """The ratio of the program for a fraction or an integer."""
    exact = Fraction(value)
    return (exact.numerator, exact.denominator)


def model_position(length, runner, time):
    """The position of a runner at a time, added up from its pieces."""
    start, pieces = runner
    moment = fraction(time)
    total = fraction(start) % fraction(length)
    begins = [fraction(piece[0]) for piece in pieces]
    for index, piece in enumerate(pieces):
        end = begins[index + 1] if index + 1 < len(pieces) else moment
        stretch = min(end, moment) - begins[index]
        if stretch > 0:
            total += stretch * fraction(piece[1])
    return total


def model_speed(runner, time):
    """The speed of a runner from a time on."""
    begun = [piece for piece in runner[1] if fraction(piece[0]) <= fraction(time)]
    return fraction(begun[-1][1])


def crowd(runners, pieces):
    """A valid dict of runners, all with the same number of pieces, for a ring of length 7 / 2."""
    made = {}
    for who in range(runners):
        rows = [(0, who - 3)]
        for at in range(1, pieces):
            speed = Fraction((at * at * 5 + who) % 11 - 5, who + 1)
            rows.append((ratio_of(Fraction(at * (who + 2), 3)), ratio_of(speed)))
        made["r" + str(who)] = (ratio_of(Fraction(who * 13 - 20, 4)), rows if who % 2 else tuple(rows))
    return made


class Case(unittest.TestCase):
    """A test case that can check errors with their fields."""

    def fails(self, error, call, *args, **fields):
        """Check that a call raises exactly this error, with these fields."""
        before = [copied(arg) for arg in args]
        with self.assertRaises(error) as caught:
            call(*args)
        self.assertIs(caught.exception.__class__, error)
        for field, value in fields.items():
            found = getattr(caught.exception, field)
            self.assertEqual(found, value)
            self.assertIs(found.__class__, value.__class__)
        for arg, old in zip(args, before):
            if isinstance(arg, (list, dict)):
                self.assertEqual(arg, old)

    def same(self, found, wanted):
        """Check that two results are equal and made of the same kinds of values."""
        self.assertEqual(found, wanted)
        self.assertEqual(repr(found), repr(wanted))


def copied(value):
    """A deep copy of a list or dict, anything else as it is."""
    return copy.deepcopy(value) if isinstance(value, (list, dict)) else value
