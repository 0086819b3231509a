"""Point 12: moments."""

from fractions import Fraction
from math import gcd

from laprunners import moments as moments_file
from laprunners.errors import InvalidCount, InvalidFactor, InvalidNumber, InvalidTime
from laprunners.moments import Moments
from tests.support import BIG, NO_NUMBERS, NO_TIMES, Case, fraction, ratio_of

BEGINS = [0, 1, 7, (1, 2), (5, 3), BIG, (BIG, 7), (1, BIG)]
STEPS = [1, 4, 6, (1, 2), (7, 3), BIG, (BIG, 2), (2, BIG)]
NO_STEPS = NO_NUMBERS + [0, (0, 1), -1, (-1, 2), -BIG, (-1, BIG)]
NO_MOMENTS = [None, True, 0, 1, (1, 4), "Moments", [], [1, 5], {}, object(), range(1, 9, 4)]


class Made(Case):
    def test_begin_and_step(self):
        for begin in BEGINS:
            for step in STEPS:
                made = Moments(begin, step)
                self.same(made.begin, ratio_of(fraction(begin)))
                self.same(made.step, ratio_of(fraction(step)))

    def test_example_of_the_document(self):
        one, two = Moments(1, 4), Moments(0, 6)
        self.same((one[2], 9 in one, (one & Moments(3, 6)).begin, one & two, one(8)), ((9, 1), True, (9, 1), None, 2))

    def test_begins_that_are_no_times(self):
        for begin in NO_TIMES:
            for step in [1, 0, -1, None, "x"]:
                with self.subTest(begin=begin, step=step):
                    self.fails(InvalidTime, Moments, begin, step)

    def test_steps_that_are_no_numbers_greater_than_zero(self):
        for step in NO_STEPS:
            with self.subTest(step=step):
                self.fails(InvalidNumber, Moments, 0, step)
                self.fails(InvalidNumber, Moments, (1, 2), step)

    def test_begin_and_step_cannot_be_set(self):
        made = Moments(1, 4)
        for name in ("begin", "step"):
            with self.assertRaises(AttributeError):
                setattr(made, name, 3)
        self.assertEqual(made, Moments(1, 4))

    def test_equality(self):
        one = Moments((1, 2), 4)
        for other in (one, Moments((1, 2), 4), Moments((1, 2), (4, 1))):
            self.assertIs(one == other, True)
            self.assertIs(one != other, False)
        for other in (Moments((1, 2), 2), Moments((9, 2), 4), Moments(4, (1, 2)), Moments(0, 4)):
            self.assertIs(one == other, False)
            self.assertIs(one != other, True)
        for other in NO_MOMENTS + [((1, 2), (4, 1))]:
            self.assertIs(one == other, False)
            self.assertIs(other == one, False)
            self.assertIs(one != other, True)


class Indexes(Case):
    def test_moments_with_indexes(self):
        for begin in BEGINS:
            for step in STEPS:
                made = Moments(begin, step)
                for index in (0, 1, 2, 5, 1000, BIG):
                    self.same(made[index], ratio_of(fraction(begin) + index * fraction(step)))

    def test_no_indexes(self):
        made = Moments(1, 4)
        for index in NO_NUMBERS + [-1, -2, -BIG, (1, 2), (1, 1), (0, 1), slice(0, 2), slice(None), made, (0, 2)]:
            with self.subTest(index=index):
                self.fails(InvalidCount, made.__getitem__, index)
                with self.assertRaises(InvalidCount):
                    made[index]

    def test_moments_cannot_be_iterated(self):
        made = Moments(1, 4)
        for call in (iter, list, tuple, sorted, sum, reversed, lambda value: [*value], lambda value: dict([value])):
            with self.assertRaises(TypeError):
                call(made)
        with self.assertRaises(TypeError):
            for _ in made:
                break
        with self.assertRaises(TypeError):
            first, *_ = made


class Times(Case):
    def test_in(self):
        for begin in BEGINS:
            for step in STEPS:
                made = Moments(begin, step)
                for index in (0, 1, 2, 7, BIG):
                    moment = fraction(begin) + index * fraction(step)
                    self.assertIs(ratio_of(moment) in made, True)
                    for shift in (Fraction(1, 3), Fraction(1, 2), Fraction(-1, BIG * 3), Fraction(2, 3)):
                        self.assertIs(ratio_of(moment + shift * fraction(step)) in made, False)
                for index in (1, 2, BIG):
                    self.assertIs(ratio_of(fraction(begin) - index * fraction(step)) in made, False)

    def test_integers_and_ratios_alike_are_in(self):
        made = Moments(1, 4)
        for time in (1, 5, (5, 1), (1, 1), 4 * BIG + 1):
            self.assertIs(time in made, True)
        for time in (0, -3, 4, (0, 1), (-3, 1), (3, 2), 4 * BIG):
            self.assertIs(time in made, False)
            self.assertIs(time not in made, True)

    def test_values_that_are_no_numbers_are_not_in(self):
        made = Moments(0, 1)
        for value in NO_NUMBERS + [made, range(9), [0], (0, 0), (2, 2)]:
            with self.subTest(value=value):
                self.assertIs(value in made, False)

    def check(self, made, time):
        steps = (fraction(time) - fraction(made.begin)) / fraction(made.step)
        count = max(0, steps.__floor__() + 1)
        self.same(made.count(time), count)
        self.same(made(time), count)
        self.same(made.after(time), ratio_of(fraction(made.begin) + count * fraction(made.step)))

    def test_counts_and_the_next_one(self):
        for begin in BEGINS:
            for step in STEPS:
                made = Moments(begin, step)
                for time in (0, 1, (1, 2), 6, 7, (23, 3), BIG, (BIG, 2), 10 ** 30, (1, BIG), (10 ** 30, 7)):
                    self.check(made, time)
                for index in (0, 1, BIG):
                    moment = fraction(made[index])
                    for time in (moment, moment + fraction(step) / 3, max(Fraction(0), moment - fraction(step) / 3)):
                        self.check(made, ratio_of(time))

    def test_before_the_begin(self):
        made = Moments(7, 4)
        for time in (0, 3, (13, 2), (7 * BIG - 1, BIG)):
            self.same((made.count(time), made(time), made.after(time)), (0, 0, (7, 1)))
        self.same((made.count(7), made(7), made.after(7)), (1, 1, (11, 1)))
        self.same((made.count(11), made.count((21, 2)), made.after((21, 2))), (2, 1, (11, 1)))

    def test_no_times(self):
        made = Moments(1, 4)
        for time in NO_TIMES:
            with self.subTest(time=time):
                for call in (made.count, made.after, made):
                    self.fails(InvalidTime, call, time)


class Later(Case):
    def test_later_and_earlier(self):
        for begin in BEGINS:
            made = Moments(begin, (7, 3))
            for delay in (0, 1, (1, 2), BIG, (BIG, 3), (-1, BIG), (-1, 2), -1, -7, -BIG):
                sum_of = fraction(begin) + fraction(delay)
                if sum_of < 0:
                    self.fails(InvalidTime, made.__add__, delay)
                else:
                    self.assertEqual(made + delay, Moments(ratio_of(sum_of), (7, 3)))
            self.same((made.begin, made.step), (ratio_of(fraction(begin)), (7, 3)))

    def test_up_to_and_past_the_begin(self):
        made = Moments((5, 2), 4)
        self.assertEqual(made + (-5, 2), Moments(0, 4))
        self.assertEqual(made + -2, Moments((1, 2), 4))
        for delay in (-3, ratio_of(Fraction(-5, 2) - Fraction(1, BIG)), -BIG):
            with self.assertRaises(InvalidTime):
                made + delay

    def test_no_delays(self):
        for delay in NO_NUMBERS + [Moments(1, 4)]:
            with self.subTest(delay=delay):
                with self.assertRaises(InvalidNumber):
                    Moments(1, 4) + delay

    def test_factors(self):
        for begin in BEGINS:
            for step in STEPS:
                for factor in (1, 2, (1, 2), (7, 3), BIG, (1, BIG)):
                    wanted = [ratio_of(fraction(number) * fraction(factor)) for number in (begin, step)]
                    self.assertEqual(Moments(begin, step) * factor, Moments(*wanted))

    def test_no_factors(self):
        for factor in NO_STEPS + [Moments(1, 4)]:
            with self.subTest(factor=factor):
                with self.assertRaises(InvalidFactor):
                    Moments(1, 4) * factor


class Common(Case):
    def check(self, one, two, wanted):
        for left, right in ((one, two), (two, one)):
            before = (left.begin, left.step, right.begin, right.step)
            found = left & right
            self.assertEqual(found, wanted)
            self.assertIs(found.__class__, wanted.__class__)
            self.same((left.begin, left.step, right.begin, right.step), before)

    def test_held_against_all_moments_up_to_a_time(self):
        begins = [0, 1, 5, 9, 40, (1, 2), (7, 3)]
        steps = [1, 2, 6, 9, 10, (1, 2), (3, 2), (5, 3)]
        for begin in begins:
            for step in steps:
                one = Moments(begin, step)
                mine = {fraction(one[index]) for index in range(one(240))}
                for other in begins:
                    for other_step in steps:
                        two = Moments(other, other_step)
                        both = sorted(mine & {fraction(two[index]) for index in range(two(240))})
                        if both:
                            self.check(one, two, Moments(ratio_of(both[0]), ratio_of(both[1] - both[0])))
                        else:
                            self.check(one, two, None)

    def test_none(self):
        self.check(Moments(0, 2), Moments(1, 2), None)
        self.check(Moments(0, 4), Moments(BIG + BIG % 2 + 1, 6), None)
        self.check(Moments((1, 2), 1), Moments(0, 3), None)
        self.check(Moments(0, (2, BIG)), Moments((1, BIG), (2, BIG)), None)

    def test_great_ones(self):
        other = 10 ** 29 + 1
        self.assertEqual(gcd(BIG, other), 1)
        # Moments 5 before the begin of the second one are not common, though they have the right remainders.
        self.check(Moments(3, BIG), Moments(3, other), Moments(3, BIG * other))
        self.check(Moments(3, BIG), Moments(3 + other, other), Moments(3 + BIG * other, BIG * other))
        self.check(Moments(3, BIG), Moments(3 + other * BIG * 7, other), Moments(3 + 7 * BIG * other, BIG * other))
        found = Moments(0, BIG) & Moments(1, other)
        self.assertIn(found.begin, Moments(0, BIG))
        self.assertIn(found.begin, Moments(1, other))
        self.assertLess(fraction(found.begin), BIG * other)
        self.same(found.step, (BIG * other, 1))

    def test_one_inside_the_other(self):
        self.check(Moments(1, 2), Moments(9, 4), Moments(9, 4))
        self.check(Moments(9, 2), Moments(1, 4), Moments(9, 4))
        self.check(Moments(10, 2), Moments(0, 4), Moments(12, 4))
        self.check(Moments((1, 3), (1, 6)), Moments((1, 3), (1, 6)), Moments((1, 3), (1, 6)))

    def test_other_kinds(self):
        for value in NO_MOMENTS:
            with self.assertRaises((TypeError, AttributeError)):
                Moments(1, 4) & value


class Interface(Case):
    def test_names_of_parameters(self):
        made = Moments(step=4, begin=1)
        self.assertEqual(made, Moments(1, 4))
        self.same((made.count(time=9), made(time=9), made.after(time=9)), (3, 3, (13, 1)))

    def test_all_is_defined_here(self):
        self.assertEqual(moments_file.Moments.__module__, "laprunners.moments")
        for name in ("begin step count after __eq__ __getitem__ __iter__ __contains__ __call__ __add__ __mul__ "
                     "__and__").split():
            self.assertIn(name, vars(Moments))

    def test_moments_stay(self):
        made = Moments(5, (1, 2))
        calls = [
            lambda: made[3], lambda: 6 in made, lambda: made.count(9), lambda: made(9), lambda: made.after(9),
            lambda: made + 1, lambda: made + -5, lambda: made * 2, lambda: made & Moments(0, 1),
            lambda: made & Moments((1, 3), 1),
        ]
        first = [call() for call in calls]
        self.assertEqual([call() for call in calls], first)
        self.assertEqual(made, Moments(5, (1, 2)))
