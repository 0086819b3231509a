"""Point 4: ratios and numbers."""

from fractions import Fraction

from laprunners import ratios
from laprunners.errors import DivisionByZero, InvalidNumber
from laprunners.ratios import (
    compare, divided, floor_of, in_order, is_integer, is_number, is_ratio, minus, plus, ratio, remainder, times,
)
from tests.support import BIG, NO_NUMBERS, NO_RATIOS, WRONG_KINDS, Case, fraction, ratio_of

INTEGERS = [0, 1, -1, 2, 3, -7, 12, BIG, -BIG, 10 ** 30, 10 ** 59, -(10 ** 59)]
RATIOS = [
    (0, 1), (1, 1), (-1, 1), (1, 2), (-1, 2), (1, 6), (5, 3), (-7, 4), (22, 7), (BIG, 7), (-BIG, 11),
    (1, BIG), (BIG + 1, BIG), (-BIG - 1, BIG), (10 ** 59 + 1, 10 ** 59),
]
NUMBERS = INTEGERS + RATIOS
TWO_NUMBERS = [plus, minus, times, divided, compare, remainder]


class Whole(int):
    """An integer of a kind of its own."""


class Pair(tuple):
    """A tuple of a kind of its own."""


class Kinds(Case):
    def test_integers(self):
        for value in INTEGERS:
            self.assertIs(is_integer(value), True)
            self.assertIs(is_ratio(value), False)
            self.assertIs(is_number(value), True)

    def test_ratios(self):
        for value in RATIOS:
            self.assertIs(is_integer(value), False)
            self.assertIs(is_ratio(value), True)
            self.assertIs(is_number(value), True)

    def test_integers_and_tuples_of_other_kinds(self):
        self.assertIs(is_integer(Whole(3)), True)
        self.assertIs(is_ratio(Pair((1, 2))), True)
        self.assertIs(is_ratio((Whole(1), Whole(2))), True)
        self.same(plus(Whole(3), Pair((1, 2))), (7, 2))
        self.same(plus(Whole(3), (Whole(1), Whole(2))), (7, 2))
        self.same(in_order([Whole(3), Pair((1, 2)), 3]), [(1, 2), (3, 1)])
        for value in (Pair((2, 4)), Pair((1, 0)), Pair((1, 2, 3)), (Whole(2), Whole(4)), (Whole(1), -1), Pair((True, 2))):
            self.assertIs(is_number(value), False)
            self.fails(InvalidNumber, plus, value, 1)
            self.fails(InvalidNumber, in_order, [1, value])

    def test_everything_else(self):
        for value in NO_NUMBERS + [1.0, (1.0, 2), [1, 2], (1, [2]), Fraction(1, 2), int, self]:
            with self.subTest(value=value):
                self.assertIs(is_integer(value), False)
                self.assertIs(is_ratio(value), False)
                self.assertIs(is_number(value), False)


class MakingRatios(Case):
    def test_lowest_terms(self):
        self.same(ratio(6, 4), (3, 2))
        self.same(ratio(6, -4), (-3, 2))
        self.same(ratio(-6, -4), (3, 2))
        self.same(ratio(-6, 4), (-3, 2))
        self.same(ratio(0, 5), (0, 1))
        self.same(ratio(0, -5), (0, 1))
        self.same(ratio(5, 1), (5, 1))
        self.same(ratio(5, -1), (-5, 1))
        self.same(ratio(BIG * 6, BIG * 4), (3, 2))

    def test_the_denominator_is_one_if_left_out(self):
        for value in INTEGERS:
            self.same(ratio(value), (value, 1))

    def test_all_pairs_of_integers(self):
        for top in INTEGERS:
            for bottom in INTEGERS:
                if bottom != 0:
                    self.same(ratio(top, bottom), ratio_of(Fraction(top, bottom)))

    def test_only_integers(self):
        for value in NO_NUMBERS + [(1, 2), (3, 1), 1.0]:
            with self.subTest(value=value):
                self.fails(InvalidNumber, ratio, value)
                self.fails(InvalidNumber, ratio, value, 2)
                self.fails(InvalidNumber, ratio, 2, value)
                self.fails(InvalidNumber, ratio, value, 0)

    def test_the_denominator_zero(self):
        for value in INTEGERS:
            self.fails(DivisionByZero, ratio, value, 0)


class Arithmetic(Case):
    def test_two_numbers(self):
        for first in NUMBERS:
            for second in NUMBERS:
                left, right = fraction(first), fraction(second)
                self.same(plus(first, second), ratio_of(left + right))
                self.same(minus(first, second), ratio_of(left - right))
                self.same(times(first, second), ratio_of(left * right))
                self.same(compare(first, second), (left > right) - (left < right))
                if right != 0:
                    self.same(divided(first, second), ratio_of(left / right))
                if right > 0:
                    self.same(remainder(first, second), ratio_of(left % right))

    def test_integers_and_ratios_alike(self):
        for call in TWO_NUMBERS:
            for first in (0, 5, -5, BIG):
                self.same(call((first, 1), (3, 1)), call(first, 3))
                self.same(call((first, 1), 3), call(first, (3, 1)))

    def test_examples_of_the_document(self):
        self.same(plus((1, 2), (1, 6)), (2, 3))
        self.same(remainder((-1, 2), 3), (5, 2))

    def test_lowest_terms(self):
        self.same(plus((1, 2), (1, 2)), (1, 1))
        self.same(minus((1, 6), (1, 2)), (-1, 3))
        self.same(times((2, 3), (3, 2)), (1, 1))
        self.same(times((2, 3), 0), (0, 1))
        self.same(divided((2, 3), (-4, 9)), (-3, 2))

    def test_floor(self):
        for value in NUMBERS:
            self.same(floor_of(value), fraction(value).__floor__())
        self.same(floor_of((7, 2)), 3)
        self.same(floor_of((-7, 2)), -4)
        self.same(floor_of((-4, 1)), -4)

    def test_remainder(self):
        self.same(remainder(0, 3), (0, 1))
        self.same(remainder(3, 3), (0, 1))
        self.same(remainder(-3, 3), (0, 1))
        self.same(remainder(-1, 3), (2, 1))
        self.same(remainder((7, 2), (3, 4)), (1, 2))
        self.same(remainder((-1, BIG), BIG), (BIG * BIG - 1, BIG))
        self.same(remainder(10 ** 59, (1, 3)), (0, 1))

    def test_no_numbers(self):
        for call in TWO_NUMBERS:
            for value in NO_NUMBERS:
                with self.subTest(call=call.__name__, value=value):
                    for other in (1, (1, 2), 0, "x", None):
                        self.fails(InvalidNumber, call, value, other)
                        self.fails(InvalidNumber, call, other, value)
        for value in NO_NUMBERS:
            self.fails(InvalidNumber, floor_of, value)

    def test_division_by_zero(self):
        for value in NUMBERS:
            self.fails(DivisionByZero, divided, value, 0)
            self.fails(DivisionByZero, divided, value, (0, 1))

    def test_a_modulus_that_is_not_greater_than_zero(self):
        for modulus in (0, (0, 1), -1, (-1, 1), (-1, 2), -BIG, (-1, BIG)):
            for value in NUMBERS:
                self.fails(DivisionByZero, remainder, value, modulus)


class Ordering(Case):
    def test_numbers_in_order(self):
        wanted = [ratio_of(value) for value in sorted({fraction(number) for number in NUMBERS})]
        self.same(in_order(NUMBERS), wanted)
        self.same(in_order(NUMBERS[::-1] + NUMBERS), wanted)

    def test_small_lists(self):
        self.same(in_order([]), [])
        self.same(in_order([0]), [(0, 1)])
        self.same(in_order([3, (3, 1), 3]), [(3, 1)])
        self.same(in_order([2, (1, 2), -1, (-3, 2), -2, (1, 3), 0]),
                  [(-2, 1), (-3, 2), (-1, 1), (0, 1), (1, 3), (1, 2), (2, 1)])

    def test_numbers_that_are_close_together(self):
        close = [(BIG + k, BIG + k + 1) for k in range(40)]
        self.same(in_order(close[::-1]), close)
        below = [(-1, BIG + 1), (-1, BIG + 2), 0, (1, BIG + 2), (1, BIG + 1)]
        self.same(in_order(below[::-1]), [(-1, BIG + 1), (-1, BIG + 2), (0, 1), (1, BIG + 2), (1, BIG + 1)])

    def test_the_list_stays_and_the_result_is_new(self):
        values = [3, (1, 2), 3, -4, (3, 1)]
        first = in_order(values)
        self.same(values, [3, (1, 2), 3, -4, (3, 1)])
        first.append("more")
        self.same(in_order(values), [(-4, 1), (1, 2), (3, 1)])
        ordered = [(1, 2), (3, 1)]
        self.assertIsNot(in_order(ordered), ordered)

    def test_no_numbers(self):
        for value in NO_NUMBERS:
            with self.subTest(value=value):
                for values in ([value], [value, 1], [1, value], [1, (1, 2), value, 2]):
                    self.fails(InvalidNumber, in_order, values)

    def test_no_lists(self):
        for value in (None, True, False, 1, "", "12", {}, {1: 2}, (2, 4)):
            self.fails(InvalidNumber, in_order, value)


class Interface(Case):
    def test_names_of_parameters(self):
        self.same(ratio(numerator=6, denominator=4), (3, 2))
        self.same(ratio(numerator=6), (6, 1))
        for call in (plus, minus, times, divided, compare):
            self.same(call(second=3, first=7), call(7, 3))
        self.same(floor_of(value=(7, 2)), 3)
        self.same(remainder(modulus=3, value=7), (1, 1))
        self.same(in_order(values=[2, 1]), [(1, 1), (2, 1)])
        for call in (is_integer, is_ratio, is_number):
            self.assertIs(call(value="x"), False)

    def test_functions_are_defined_here(self):
        for name in ("is_integer is_ratio is_number ratio plus minus times divided compare floor_of "
                     "remainder in_order").split():
            self.assertEqual(getattr(ratios, name).__module__, "laprunners.ratios")

    def test_lists_of_wrong_values_are_as_meant(self):
        self.assertTrue(all(isinstance(value, tuple) for value in NO_RATIOS))
        self.assertIn(True, WRONG_KINDS)
