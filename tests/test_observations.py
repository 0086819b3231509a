"""Point 18: speeds that fit observations, and refusals that show that there is none."""

import random
from itertools import product
from math import gcd

from laprunners.errors import (
    InvalidLength, InvalidNumber, InvalidObservation, InvalidTime, LimitExceeded, NoSpeed,
)
from laprunners.observations import count_speeds, fitting_speeds, is_no_speed, next_look, speeds_between
from tests.models import fitting_by_trying, look_by_trying
from tests.support import BIG, Case

NO_INTEGERS = [None, True, False, "1", "", b"1", (1, 1), (1, 2), [], [1], {}, (), 1.5, object]
NO_OBSERVATIONS = [
    None, True, 0, 5, "ab", "", [1, 2], [], (), (1,), (1, 2, 3), (-1, 0), (-BIG, 2), (True, 2), (1, False), (1, None),
    ("1", 2), ((1, 1), 2), (1, (2, 1)), {1: 2}, object, (1.0, 2),
]


def some_observations(many, seed):
    """Tuples (length, observations), of which about half are those of one speed."""
    source = random.Random(seed)
    made = []
    for _ in range(many):
        length = source.choice([1, 2, 3, 4, 6, 7, 8, 9, 10, 12, 15, 16, 18, 24, 30])
        speed = source.randint(-30, 30)
        rows = []
        for _ in range(source.choice([0, 1, 1, 2, 2, 3, 4])):
            time = source.randint(0, 2 * length)
            place = time * speed + length * source.randint(-2, 2)
            rows.append((time, place if source.random() < 0.75 else source.randint(-9, 40)))
        made.append((length, rows if source.random() < 0.5 else tuple(rows)))
    return made


def refuses(length, observations, value):
    """Whether a tuple of integers is a refusal, from the words of the document."""
    times = sum(item * time for item, (time, _) in zip(value, observations))
    places = sum(item * place for item, (_, place) in zip(value, observations))
    return times % length == 0 and places % length != 0


class ByTrying(Case):
    def test_fitting_speeds(self):
        kinds = [0, 0, 0]
        for length, rows in some_observations(600, 111):
            with self.subTest(length=length, rows=rows):
                fitting = fitting_by_trying(length, rows, 0, length - 1)
                kinds[min(2, len(fitting))] += 1
                if not fitting:
                    self.check_refusal(length, rows)
                    continue
                remainder, modulus = fitting_speeds(length, rows)
                self.assertEqual([speed for speed in range(length) if speed % modulus == remainder], fitting)
                self.assertEqual(length % modulus, 0)
                self.assertTrue(0 <= remainder < modulus)
                self.check_no_refusals(length, rows)
        self.assertGreater(min(kinds), 50)

    def check_refusal(self, length, rows):
        with self.assertRaises(NoSpeed) as caught:
            fitting_speeds(length, rows)
        value = caught.exception.refusal
        self.assertIs(value.__class__, tuple)
        self.assertEqual(len(value), len(rows))
        self.assertTrue(all(item.__class__ is int for item in value))
        self.assertTrue(refuses(length, rows, value))
        self.assertIs(is_no_speed(length, rows, value), True)
        self.assertIs(is_no_speed(length, rows, tuple(length - item for item in value)), True)
        self.assertIs(is_no_speed(length, rows, list(value)), False)
        self.assertIs(is_no_speed(length, rows, value + (0,)), False)
        self.assertIs(is_no_speed(length, rows, value[1:]), False)
        self.same(count_speeds(length, rows, -BIG, BIG), 0)
        self.same(speeds_between(length, rows, -BIG, BIG), [])

    def check_no_refusals(self, length, rows):
        for value in product((-3, -1, 0, 1, 2, length), repeat=min(3, len(rows))):
            value += (1,) * (len(rows) - len(value))
            self.assertIs(is_no_speed(length, rows, value), False)

    def test_tuples(self):
        for length, rows in some_observations(80, 112):
            if len(rows) < 3:
                for value in product(range(-length, length + 1, max(1, length // 6)), repeat=len(rows)):
                    self.assertIs(is_no_speed(length, rows, value), refuses(length, rows, value))

    def test_speeds_between_bounds(self):
        source = random.Random(113)
        for length, rows in some_observations(300, 114):
            low = source.randint(-50, 50)
            high = low + source.choice([-20, -1, 0, 1, 5, 40, 100])
            wanted = fitting_by_trying(length, rows, low, high)
            self.same(speeds_between(length, rows, low, high), wanted)
            self.same(count_speeds(length, rows, low, high), len(wanted))

    def test_next_look(self):
        source, kinds = random.Random(115), [0, 0]
        for length, rows in some_observations(500, 116):
            low = source.randint(-50, 50)
            high = low + source.choice([-5, 0, 3, 7, 12, 20, 40])
            speeds = fitting_by_trying(length, rows, low, high)
            for after in (0, 1, source.randint(2, 90)):
                wanted = look_by_trying(length, speeds, after)
                self.same(next_look(length, rows, low, high, after=after), wanted)
                kinds[wanted is None] += 1
            self.same(next_look(length, rows, low, high), look_by_trying(length, speeds, 0))
        self.assertGreater(min(kinds), 100)


class Examples(Case):
    def test_example_of_the_document(self):
        self.same((fitting_speeds(12, [(2, 6)]), speeds_between(12, [(2, 6)], -5, 10), next_look(12, [(2, 6)], 0, 11)),
                  ((3, 6), [-3, 3, 9], 1))

    def test_no_observations(self):
        for rows in ([], ()):
            self.same(fitting_speeds(12, rows), (0, 1))
            self.same(speeds_between(12, rows, -2, 1), [-2, -1, 0, 1])
            self.same(count_speeds(12, rows, -BIG, BIG), 2 * BIG + 1)
            self.assertIs(is_no_speed(12, rows, ()), False)
            self.same(next_look(12, rows, 0, 11), 1)
            self.same(next_look(12, rows, 0, 11, after=1), 5)
            self.assertIsNone(next_look(12, rows, 0, 12))

    def test_a_length_of_one(self):
        self.same(fitting_speeds(1, [(3, 7), (0, -5), (BIG, BIG)]), (0, 1))
        self.same(speeds_between(1, [(3, 7)], 4, 6), [4, 5, 6])
        self.assertIs(is_no_speed(1, [(3, 7)], (1,)), False)
        self.assertIsNone(next_look(1, [(3, 7)], 4, 6))
        self.same(next_look(1, [(3, 7)], 4, 4, after=8), 9)

    def test_time_zero(self):
        self.same(fitting_speeds(10, [(0, 0)]), (0, 1))
        self.same(fitting_speeds(10, [(0, -30), (3, 1)]), (7, 10))
        self.fails(NoSpeed, fitting_speeds, 10, [(3, 1), (0, 5)], refusal=(0, 1))
        self.assertIs(is_no_speed(10, [(3, 1), (0, 5)], (0, 1)), True)
        self.assertIs(is_no_speed(10, [(3, 1), (0, 5)], (10, 3)), True)
        self.assertIs(is_no_speed(10, [(3, 1), (0, 5)], (10, 2)), False)

    def test_two_observations_that_do_not_fit_together(self):
        # The first one fits odd speeds, the second one even ones.
        rows = [(6, 6), (3, 0)]
        self.same(fitting_speeds(12, rows[:1]), (1, 2))
        self.same(fitting_speeds(12, rows[1:]), (0, 4))
        with self.assertRaises(NoSpeed) as caught:
            fitting_speeds(12, rows)
        self.assertTrue(refuses(12, rows, caught.exception.refusal))
        self.same(count_speeds(12, rows, -9, 9), 0)
        self.same(next_look(12, rows, -9, 9), 1)
        self.same(next_look(12, rows, -9, 9, after=5), 6)

    def test_great_numbers(self):
        length = 3 * 7 * BIG
        speed = 10 ** 29 + 12345
        rows = [(3, 3 * speed), (7 * BIG, 7 * BIG * speed)]
        self.same(fitting_speeds(length, rows), (speed % length, length))
        self.same(fitting_speeds(length, rows[:1]), (speed % (7 * BIG), 7 * BIG))
        self.same(speeds_between(length, rows, speed - length, speed + length), [speed - length, speed, speed + length])
        self.same(count_speeds(length, rows[1:], 0, 10 ** 59), (10 ** 59 - speed % 3) // 3 + 1)
        wrong = rows + [(BIG, BIG * (speed + 1))]
        with self.assertRaises(NoSpeed) as caught:
            fitting_speeds(length, wrong)
        self.assertTrue(refuses(length, wrong, caught.exception.refusal))
        self.assertIs(is_no_speed(length, wrong, caught.exception.refusal), True)
        self.same(fitting_speeds(BIG, [(2, 1)]), ((BIG + 1) // 2, BIG))

    def test_fifty_and_fifty_one(self):
        rows = [(at, 5 * at) for at in range(50)]
        self.same(fitting_speeds(720720, rows), (5, 720720))
        self.same(fitting_speeds(720720, tuple(rows)), (5, 720720))
        with self.assertRaises(NoSpeed) as caught:
            fitting_speeds(720720, rows[:49] + [(49, 246)])
        self.assertEqual(len(caught.exception.refusal), 50)
        self.assertTrue(refuses(720720, rows[:49] + [(49, 246)], caught.exception.refusal))
        for more in ([(0, 0)], ["x"]):
            for call, args in ((fitting_speeds, ()), (is_no_speed, ((),)), (count_speeds, (0, 1)), (speeds_between, (0, 1)),
                               (next_look, (0, 1))):
                self.fails(InvalidObservation, call, 720720, rows + more, *args, index=None)

    def test_exactly_2000_and_2001_speeds(self):
        for low, step, rows in ((-3, 1, []), (BIG, 1, ()), (1, 6, [(2, 6)])):
            first = low if step == 1 else 3
            self.same(speeds_between(12, rows, low, first + 1999 * step), [first + at * step for at in range(2000)])
            self.fails(LimitExceeded, speeds_between, 12, rows, low, first + 2000 * step, limit=2000)
            self.fails(LimitExceeded, speeds_between, 12, rows, low, low + 10 ** 30, limit=2000)
            self.same(count_speeds(12, rows, low, first + 2000 * step), 2001)
        self.same(count_speeds(12, [], 0, 10 ** 31), 10 ** 31 + 1)
        self.same(speeds_between(BIG, [(1, 5)], -10 ** 30, 10 ** 30), [5 + at * BIG for at in range(-10, 10)
                                                                       if abs(5 + at * BIG) <= 10 ** 30])

    def test_bounds_in_the_other_order(self):
        for rows in ([], [(2, 6)]):
            self.same(speeds_between(12, rows, 10, -5), [])
            self.same(count_speeds(12, rows, 10, -5), 0)
            self.same(count_speeds(12, rows, BIG, -BIG), 0)
            self.same(next_look(12, rows, 10, -5), 1)
            self.same(next_look(12, rows, 10, -5, after=3), 4)

    def test_looks_of_great_numbers(self):
        self.same(next_look(BIG, [], 0, BIG - 1), 1)
        self.same(next_look(BIG, [], 0, BIG - 1, after=BIG - 1), BIG + 1)
        self.assertIsNone(next_look(BIG, [], 0, BIG))
        self.same(next_look(2 * BIG, [], 0, 2 * BIG - 1, after=BIG - 1), BIG + 2)
        self.same(next_look(2 * BIG, [], 0, BIG - 1, after=BIG - 1), BIG + 1)
        self.same(next_look(2 * BIG, [(BIG, BIG)], -10 ** 30, -10 ** 30 + 2 * BIG - 1, after=BIG - 1), BIG + 1)
        # The product of the primes up to 137: times without a divisor in common with it are far apart, and yet found.
        primes = [at for at in range(2, 138) if all(at % other for other in range(2, at))]
        length = 1
        for prime in primes:
            length *= prime
        after = 10 ** 40
        wanted = after + 1
        while gcd(wanted, length) > 1:
            wanted += 1
        self.same(next_look(length, [], 1, length, after=after), wanted)
        self.same(next_look(length, [], 1, length, after=1), 139)
        self.same(next_look(length, [], 1, length, after=0), 1)

    def test_arguments_do_not_change_and_results_are_new(self):
        rows = [(2, 6), (4, 0)]
        for call in (lambda: fitting_speeds(12, rows), lambda: speeds_between(12, rows, 0, 20), lambda: next_look(12, rows, 0, 5)):
            self.same(call(), call())
        speeds_between(12, rows, 0, 20).append(1)
        self.same(speeds_between(12, rows, 0, 20), [3, 9, 15])
        self.assertEqual(rows, [(2, 6), (4, 0)])


class OtherValues(Case):
    def test_values_that_are_no_refusals(self):
        rows = [(6, 6), (3, 0)]
        self.assertIs(is_no_speed(12, rows, (1, 2)), True)
        for value in [None, True, 0, "ab", [], [1, 2], {}, {1: 2}, (), (1,), (1, 2, 0), ("1", "2"), (True, 2), (1, None), object,
                      ((1, 2),), (1.0, 2.0), ((1, 1), (2, 1)), range(1, 3)]:
            with self.subTest(value=repr(value)):
                self.assertIs(is_no_speed(12, rows, value), False)
        self.assertIs(is_no_speed(2, [(1, 0), (1, 1)], (1, 1)), True)
        for value in ((True, True), (1, True), (True, 1)):
            self.assertIs(is_no_speed(2, [(1, 0), (1, 1)], value), False)
        self.assertIs(is_no_speed(10, [(3, 1), (0, 5)], (False, 1)), False)


class Errors(Case):
    def faults(self):
        found = [({"length": value}, InvalidLength, {}) for value in NO_INTEGERS + [0, -1, -BIG]]
        for value in (None, True, 5, "ab", {}, {1: 2}, object, range(3), [(1, 2)] * 51, [None] * 51, ((1, 2),) * 60):
            found.append(({"observations": value}, InvalidObservation, {"index": None}))
        for value in NO_OBSERVATIONS:
            found.append(({"observations": [value]}, InvalidObservation, {"index": 0}))
            found.append(({"observations": ((1, 2), (0, 0), value, (1, 1), None)}, InvalidObservation, {"index": 2}))
        found.append(({"observations": [(1, 2)] * 49 + [None]}, InvalidObservation, {"index": 49}))
        return found

    def test_fitting_speeds(self):
        good = {"length": 12, "observations": [(2, 6)]}
        faults = self.faults() + [({"observations": [(2, 5)]}, NoSpeed, {"refusal": (6,)})]
        self.errors_in_order(fitting_speeds, good, faults)
        self.errors_in_order(is_no_speed, {**good, "value": (1,)}, self.faults() + [])
        self.errors_in_order(is_no_speed, {**good, "value": "x"}, self.faults() + [])

    def test_bounds(self):
        good = {"length": 12, "observations": [(2, 6)], "low": 0, "high": 9}
        bounds = [({"low": value}, InvalidNumber, {}) for value in NO_INTEGERS]
        bounds += [({"high": value}, InvalidNumber, {}) for value in NO_INTEGERS]
        self.errors_in_order(count_speeds, good, self.faults() + bounds)
        self.errors_in_order(speeds_between, good, self.faults() + bounds + [({"high": BIG}, LimitExceeded, {"limit": 2000})])
        times = [({"after": value}, InvalidTime, {}) for value in NO_INTEGERS + [-1, -BIG]]
        self.errors_in_order(next_look, {**good, "after": 0}, self.faults() + bounds + times)
        for after in NO_INTEGERS:
            self.named(InvalidTime, next_look, {**good, "observations": [(2, 5)], "after": after})
            self.named(InvalidTime, next_look, {**good, "high": 100, "after": after})
        with self.assertRaises(TypeError):
            next_look(12, [], 0, 1, 0)

    def test_names_of_parameters(self):
        good = {"length": 12, "observations": [(2, 6)]}
        self.same(fitting_speeds(**good), (3, 6))
        self.same(is_no_speed(**good, value=(6,)), False)
        self.same(count_speeds(**good, low=0, high=9), 2)
        self.same(speeds_between(**good, low=0, high=9), [3, 9])
        self.same(next_look(**good, low=0, high=9, after=1), 3)
