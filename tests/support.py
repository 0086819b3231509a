"""What several test files need: checks of errors, and a model of a race in fractions."""

import copy
import random
import unittest
from fractions import Fraction

# A prime of thirty digits, so that it has no divisor in common with small numbers.
BIG = 10 ** 29 + 319
WRONG_KINDS = [True, False, None, "1", "", b"1", [], [1, 2], {}, (), (1,), (1, 2, 3), object]
NO_RATIOS = [
    (2, 4), (0, 2), (1, 0), (1, -1), (-3, -2), (0, 0), (True, 2), (1, True), (False, 1),
    ("1", 2), (1, None), ((1, 2), 1), (BIG * 3, 3),
]
NO_NUMBERS = WRONG_KINDS + NO_RATIOS
NO_TIMES = NO_NUMBERS + [-1, (-1, 2), -BIG, (-BIG, 7)]
NO_NAMES = [None, True, False, 0, 1, "", "zz", "A", "a ", b"a", (), ("a",), [], ["a"], {}, {"a": 1}, object]


def fraction(number):
    """The fraction of a number of the program."""
    if isinstance(number, tuple):
        return Fraction(number[0], number[1])
    return Fraction(number)


def ratio_of(value):
    """The ratio of the program for a fraction or an integer."""
    exact = Fraction(value)
    return (exact.numerator, exact.denominator)


def model_position(length, runner, time):
    """The position of a runner at a time, added up from its pieces."""
    start, pieces = runner
    moment = fraction(time)
    total = fraction(start) % fraction(length)
    begins = [fraction(piece[0]) for piece in pieces]
    for index, piece in enumerate(pieces):
        end = begins[index + 1] if index + 1 < len(pieces) else moment
        stretch = min(end, moment) - begins[index]
        if stretch > 0:
            total += stretch * fraction(piece[1])
    return total


def model_speed(runner, time):
    """The speed of a runner from a time on."""
    begun = [piece for piece in runner[1] if fraction(piece[0]) <= fraction(time)]
    return fraction(begun[-1][1])


def crowd(runners, pieces):
    """A valid dict of runners, all with the same number of pieces, for a ring of length 7 / 2."""
    made = {}
    for who in range(runners):
        rows = [(0, who - 3)]
        for at in range(1, pieces):
            speed = Fraction((at * at * 5 + who) % 11 - 5, who + 1)
            rows.append((ratio_of(Fraction(at * (who + 2), 3)), ratio_of(speed)))
        made["r" + str(who)] = (ratio_of(Fraction(who * 13 - 20, 4)), rows if who % 2 else tuple(rows))
    return made


def model_meetings(length, runners, pair, value, start, end):
    """The tuples (time, rate) of a window at which the gap of a pair comes to a value, and how fast it grows there.

    They are found by going through all whole lengths, piece by piece.
    """
    ring, low, high = fraction(length), fraction(start), fraction(end)
    first, second = [runners[name] for name in pair]
    begins = sorted({fraction(piece[0]) for runner in (first, second) for piece in runner[1]})
    found = []
    for begin, until in zip(begins, begins[1:] + [max(high, begins[-1])]):
        rate = model_speed(second, ratio_of(begin)) - model_speed(first, ratio_of(begin))
        lead = [model_position(length, second, ratio_of(time)) - model_position(length, first, ratio_of(time))
                for time in (begin, until)]
        turns = [((lead[at] - fraction(value)) / ring).__floor__() for at in (0, 1)]
        for turn in range(min(turns) - 1, max(turns) + 2):
            if rate != 0:
                time = begin + (fraction(value) + turn * ring - lead[0]) / rate
                if begin < time <= until and low < time <= high:
                    found.append((time, rate))
    return sorted(found)


def model_passes(length, runners, over, under, start, end):
    """The times of a window at which a runner passes another one."""
    meetings = model_meetings(length, runners, (under, over), 0, start, end)
    return [time for time, rate in meetings if rate > 0]


def small_races(many, seed):
    """Many tuples (length, runners) of two to four runners, with meetings at changes of speeds among them."""
    source = random.Random(seed)
    made = []
    for _ in range(many):
        length = source.choice([1, 2, 5, 10, (3, 2), (7, 3)])
        runners = {}
        for name in source.sample(["a", "b", "c1", "d"], source.randint(2, 4)):
            begins = [0] + sorted(source.sample(range(1, 8), source.choice([0, 0, 1, 2, 4])))
            speeds = [source.choice([0, 1, -1, 2, -3, (1, 2), (-5, 3)]) for _ in begins]
            runners[name] = (source.choice([0, 0, 1, (1, 2), 7, -2]), list(zip(begins, speeds)))
        made.append((length, runners))
    return made


def split_pieces(runners):
    """The runners with two pieces in place of each one, and one more, which begins late."""
    made = {}
    for name, (start, pieces) in runners.items():
        begins = [fraction(piece[0]) for piece in pieces] + [Fraction(8)]
        rows = []
        for at, (_, speed) in enumerate(pieces):
            middle = (begins[at] + begins[at + 1]) / 2
            rows += [(ratio_of(begins[at]), speed), (ratio_of(middle), speed)]
        made[name] = (start, rows + [(ratio_of(begins[-1]), pieces[-1][1]), (BIG, pieces[-1][1])])
    return made


def pairs_of(runners):
    """All pairs of two different names, sorted."""
    return [(first, second) for first in sorted(runners) for second in sorted(runners) if first != second]


class Case(unittest.TestCase):
    """A test case that can check errors with their fields."""

    def fails(self, error, call, *args, **fields):
        """Check that a call raises exactly this error, with these fields, and changes no argument."""
        self.raised(error, lambda: call(*args), args, fields)

    def named(self, error, call, arguments, **fields):
        """Check the same of a call with arguments by name."""
        self.raised(error, lambda: call(**arguments), list(arguments.values()), fields)

    def raised(self, error, act, args, fields):
        """Check that an act raises exactly this error, with these fields, and changes no argument."""
        before = [copied(arg) for arg in args]
        with self.assertRaises(error) as caught:
            act()
        self.assertIs(caught.exception.__class__, error)
        for field, value in fields.items():
            found = getattr(caught.exception, field)
            self.assertEqual(found, value)
            self.assertIs(found.__class__, value.__class__)
        for arg, old in zip(args, before):
            if isinstance(arg, (list, dict)):
                self.assertEqual(arg, old)

    def errors_in_order(self, call, good, faults):
        """Check the errors of a call, each alone and each two at once.

        Faults are tuples (arguments, error, fields) in the order in which the document checks them.
        """
        for at, (wrong, error, fields) in enumerate(faults):
            with self.subTest(wrong=repr(wrong)):
                self.named(error, call, {**good, **wrong}, **fields)
            for more, _, _ in faults[at + 1:]:
                if not wrong.keys() & more.keys():
                    with self.subTest(wrong=repr(wrong), more=repr(more)):
                        self.named(error, call, {**good, **more, **wrong}, **fields)

    def same(self, found, wanted):
        """Check that two results are equal and made of the same kinds of values."""
        self.assertEqual(found, wanted)
        self.assertEqual(repr(found), repr(wanted))


def copied(value):
    """A deep copy of a list or dict, anything else as it is."""
    return copy.deepcopy(value) if isinstance(value, (list, dict)) else value
