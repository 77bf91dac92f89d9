"""Promise 2: fractions, made, reckoned, compared and written."""

import math
import unittest
from fractions import Fraction

from planwell.errors import BadFraction
from planwell.fractions import (
    down, fraction, is_fraction, less, minus, over, plus, shown_fraction, sign, times, up,
)

GREAT = 123456789012345678901234567890
SAMPLES = [fraction(top, bottom) for top in range(-7, 8) for bottom in (1, 2, 3, 4, 6)]
SAMPLES = SAMPLES + [fraction(GREAT, 7), fraction(-GREAT, GREAT + 1), fraction(3, GREAT)]


def pair(number):
    return (number.numerator, number.denominator)


class Made(unittest.TestCase):
    def assert_made(self, made, wanted):
        self.assertEqual(made, wanted)
        self.assertIs(type(made), tuple)
        self.assertEqual([type(part) for part in made], [int, int])

    def test_of_two_whole_numbers(self):
        self.assert_made(fraction(5, 2), (5, 2))
        self.assert_made(fraction(6, 4), (3, 2))
        self.assert_made(fraction(12, 4), (3, 1))
        self.assert_made(fraction(4, 12), (1, 3))
        self.assert_made(fraction(1, 1), (1, 1))

    def test_of_one_alone(self):
        self.assert_made(fraction(7), (7, 1))
        self.assert_made(fraction(-3), (-3, 1))
        self.assert_made(fraction(0), (0, 1))

    def test_below_nought(self):
        self.assert_made(fraction(-6, 4), (-3, 2))
        self.assert_made(fraction(6, -4), (-3, 2))
        self.assert_made(fraction(-6, -4), (3, 2))
        self.assert_made(fraction(5, -1), (-5, 1))

    def test_of_nought(self):
        for bottom in (1, 5, -1, -5, GREAT):
            self.assert_made(fraction(0, bottom), (0, 1))

    def test_of_thirty_figures(self):
        self.assert_made(fraction(GREAT * 6, GREAT * 4), (3, 2))
        self.assert_made(fraction(-GREAT, GREAT + 1), (-GREAT, GREAT + 1))
        self.assert_made(fraction(GREAT, -GREAT), (-1, 1))
        divisor = math.gcd(GREAT, 10 ** 29)
        self.assert_made(fraction(GREAT, 10 ** 29), (GREAT // divisor, 10 ** 29 // divisor))

    def test_by_name(self):
        self.assert_made(fraction(top=2, bottom=4), (1, 2))

    def test_bottom_nought_is_refused(self):
        for top in (0, 1, -1, GREAT):
            self.assertRaises(BadFraction, fraction, top, 0)

    def test_all_small_ones(self):
        for top in range(-30, 31):
            for bottom in list(range(-30, 0)) + list(range(1, 31)):
                self.assertEqual(fraction(top, bottom), pair(Fraction(top, bottom)))


class IsFraction(unittest.TestCase):
    def test_fractions(self):
        for thing in [(0, 1), (1, 1), (-1, 1), (5, 2), (-1, 3), (GREAT, GREAT + 1)] + SAMPLES:
            self.assertIs(is_fraction(thing), True, thing)

    def test_not_in_lowest_terms(self):
        for thing in [(2, 4), (-2, 4), (0, 2), (6, 3), (GREAT * 2, 4)]:
            self.assertIs(is_fraction(thing), False, thing)

    def test_bottom_nought_or_below(self):
        for thing in [(1, 0), (0, 0), (1, -1), (1, -2), (-1, -2), (0, -1)]:
            self.assertIs(is_fraction(thing), False, thing)

    def test_true_and_false_are_no_numbers(self):
        for thing in [(True, 1), (False, 1), (1, True), (3, True), (True, True), (1, False), True, False]:
            self.assertIs(is_fraction(thing), False, thing)

    def test_too_few_or_too_many_parts(self):
        for thing in [(), (1,), (1, 2, 3), (1, 1, 1), ((1, 2),), ((1, 2), (1, 3))]:
            self.assertIs(is_fraction(thing), False, thing)

    def test_of_another_kind(self):
        things = [[1, 2], [0, 1], "1/2", "12", "", 1, 0, -3, None, 0.5, (1.0, 2), (1, 2.0), ("1", "2")]
        things = things + [(None, 1), (1, None), {1: 2}, {0: 1, 1: 2}, {1, 2}, b"12", object(), Fraction(1, 2), ([1], 2)]
        for thing in things:
            self.assertIs(is_fraction(thing), False, thing)


class Reckoned(unittest.TestCase):
    def test_ordinary(self):
        self.assertEqual(plus((1, 2), (1, 3)), (5, 6))
        self.assertEqual(minus((1, 2), (1, 3)), (1, 6))
        self.assertEqual(times((2, 3), (-5, 7)), (-10, 21))
        self.assertEqual(over((1, 2), (-3, 4)), (-2, 3))

    def test_told_in_lowest_terms(self):
        self.assertEqual(plus((1, 6), (1, 3)), (1, 2))
        self.assertEqual(plus((1, 2), (-1, 2)), (0, 1))
        self.assertEqual(minus((5, 6), (5, 6)), (0, 1))
        self.assertEqual(minus((7, 4), (3, 4)), (1, 1))
        self.assertEqual(times((2, 3), (3, 2)), (1, 1))
        self.assertEqual(times((0, 1), (3, 7)), (0, 1))
        self.assertEqual(over((4, 3), (2, 3)), (2, 1))
        self.assertEqual(over((0, 1), (-2, 3)), (0, 1))

    def test_over_nought_is_refused(self):
        for one in SAMPLES:
            self.assertRaises(BadFraction, over, one, (0, 1))

    def test_all_samples(self):
        for one in SAMPLES:
            for other in SAMPLES:
                left = Fraction(*one)
                right = Fraction(*other)
                self.assertEqual(plus(one, other), pair(left + right))
                self.assertEqual(minus(one, other), pair(left - right))
                self.assertEqual(times(one, other), pair(left * right))
                if right != 0:
                    self.assertEqual(over(one, other), pair(left / right))


class Compared(unittest.TestCase):
    def test_less_either_way_round_and_of_one_with_itself(self):
        self.assertIs(less((1, 3), (1, 2)), True)
        self.assertIs(less((1, 2), (1, 3)), False)
        self.assertIs(less((-1, 2), (-1, 3)), True)
        self.assertIs(less((-1, 3), (-1, 2)), False)
        self.assertIs(less((-1, 2), (0, 1)), True)
        self.assertIs(less((1, 2), (1, 2)), False)
        self.assertIs(less((0, 1), (0, 1)), False)

    def test_less_of_all_samples(self):
        for one in SAMPLES:
            for other in SAMPLES:
                self.assertIs(less(one, other), Fraction(*one) < Fraction(*other))

    def test_less_is_exact(self):
        self.assertIs(less((GREAT, GREAT + 1), (GREAT + 1, GREAT + 2)), True)
        self.assertIs(less((GREAT + 1, GREAT + 2), (GREAT, GREAT + 1)), False)

    def test_sign(self):
        told = [sign(one) for one in [(5, 2), (1, GREAT), (0, 1), (-1, 3), (-GREAT, 1)]]
        self.assertEqual(told, [1, 1, 0, -1, -1])
        self.assertEqual([type(one) for one in told], [int] * 5)

    def test_down_and_up(self):
        for one, below, above in [
            ((5, 2), 2, 3), ((-5, 2), -3, -2), ((1, 3), 0, 1), ((-1, 3), -1, 0), ((2, 3), 0, 1), ((-2, 3), -1, 0),
            ((0, 1), 0, 0), ((4, 1), 4, 4), ((-4, 1), -4, -4), ((1, 1), 1, 1), ((-1, 1), -1, -1),
            ((GREAT, GREAT - 1), 1, 2), ((-GREAT, GREAT - 1), -2, -1), ((2 * GREAT + 1, 2), GREAT, GREAT + 1),
        ]:
            self.assertEqual((down(one), up(one)), (below, above), one)

    def test_down_and_up_of_all_samples(self):
        for one in SAMPLES:
            self.assertEqual(down(one), math.floor(Fraction(*one)))
            self.assertEqual(up(one), math.ceil(Fraction(*one)))


class Shown(unittest.TestCase):
    def test_shown(self):
        for one, text in [
            ((7, 1), "7"), ((-3, 1), "-3"), ((5, 2), "5/2"), ((-1, 3), "-1/3"), ((0, 1), "0"), ((10, 1), "10"),
            ((100, 7), "100/7"), ((GREAT, 1), str(GREAT)), ((-1, GREAT), "-1/" + str(GREAT)),
        ]:
            self.assertEqual(shown_fraction(one), text)

    def test_four_thousand_figures(self):
        self.assertEqual(shown_fraction((-(10 ** 1999), 10 ** 1999 + 1)), "-1" + "0" * 1999 + "/1" + "0" * 1998 + "1")
        self.assertEqual(shown_fraction((10 ** 3999, 1)), "1" + "0" * 3999)


if __name__ == "__main__":
    unittest.main()
