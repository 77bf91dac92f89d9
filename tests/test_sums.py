"""Promises 3 and 4: sums, their worth, and two of them multiplied."""

import copy
import unittest
from fractions import Fraction

from planwell.errors import NotLinear
from planwell.fractions import is_fraction
from planwell.sums import added, multiplied, plain, scaled, single, worth

TWO = ((1, 2), ((0, (2, 1)), (3, (-1, 3))))
OTHER = ((-3, 4), ((1, (5, 1)), (3, (1, 3)), (7, (4, 5))))
SAMPLES = [TWO, OTHER, plain((0, 1)), plain((-5, 2)), single(0), single(3), ((0, 1), ((3, (1, 3)), (40, (-7, 2))))]
VALUES = [(number - 20, 1) if number % 2 else (2 * number + 1, 2) for number in range(41)]


class Form(unittest.TestCase):
    def assert_sum(self, one):
        self.assertIs(type(one), tuple)
        self.assertEqual(len(one), 2)
        self.assertTrue(is_fraction(one[0]), one)
        self.assertIs(type(one[1]), tuple)
        numbers = []
        for pair in one[1]:
            self.assertIs(type(pair), tuple)
            self.assertEqual(len(pair), 2)
            self.assertIs(type(pair[0]), int)
            self.assertTrue(is_fraction(pair[1]), one)
            self.assertNotEqual(pair[1], (0, 1))
            numbers.append(pair[0])
        self.assertEqual(numbers, sorted(set(numbers)))

    def test_what_is_told_is_a_sum(self):
        for one in SAMPLES:
            self.assert_sum(one)
            for part in [(0, 1), (1, 1), (-3, 2)]:
                self.assert_sum(scaled(one, part))
                self.assert_sum(multiplied(one, plain(part)))
                self.assert_sum(multiplied(plain(part), one))
            for other in SAMPLES:
                self.assert_sum(added(one, other))
                self.assert_sum(added(one, scaled(other, (-1, 1))))


class Made(unittest.TestCase):
    def test_plain(self):
        self.assertEqual(plain((5, 2)), ((5, 2), ()))
        self.assertEqual(plain((-1, 1)), ((-1, 1), ()))
        self.assertEqual(plain((0, 1)), ((0, 1), ()))

    def test_single(self):
        self.assertEqual(single(0), ((0, 1), ((0, (1, 1)),)))
        self.assertEqual(single(39), ((0, 1), ((39, (1, 1)),)))


class Added(unittest.TestCase):
    def test_ordinary(self):
        self.assertEqual(added(TWO, OTHER), ((-1, 4), ((0, (2, 1)), (1, (5, 1)), (7, (4, 5)))))
        self.assertEqual(added(OTHER, TWO), added(TWO, OTHER))

    def test_numbers_rise_whichever_came_first(self):
        wanted = ((0, 1), ((2, (1, 1)), (5, (1, 1)), (11, (1, 1))))
        self.assertEqual(added(single(11), added(single(5), single(2))), wanted)
        self.assertEqual(added(added(single(2), single(11)), single(5)), wanted)

    def test_each_number_once(self):
        self.assertEqual(added(single(4), single(4)), ((0, 1), ((4, (2, 1)),)))

    def test_what_cancels_out_is_left_out(self):
        self.assertEqual(added(single(4), scaled(single(4), (-1, 1))), ((0, 1), ()))
        self.assertEqual(added(TWO, scaled(TWO, (-1, 1))), ((0, 1), ()))

    def test_with_nothing(self):
        self.assertEqual(added(TWO, plain((0, 1))), TWO)
        self.assertEqual(added(plain((0, 1)), TWO), TWO)
        self.assertEqual(added(plain((1, 2)), plain((1, 2))), ((1, 1), ()))


class Scaled(unittest.TestCase):
    def test_ordinary(self):
        self.assertEqual(scaled(TWO, (3, 1)), ((3, 2), ((0, (6, 1)), (3, (-1, 1)))))
        self.assertEqual(scaled(TWO, (-1, 2)), ((-1, 4), ((0, (-1, 1)), (3, (1, 6)))))
        self.assertEqual(scaled(TWO, (1, 1)), TWO)

    def test_by_nought(self):
        for one in SAMPLES:
            self.assertEqual(scaled(one, (0, 1)), ((0, 1), ()))


class Multiplied(unittest.TestCase):
    def test_by_one_without_pairs_either_way_round(self):
        for part in [(3, 1), (-1, 2), (0, 1)]:
            for one in SAMPLES:
                self.assertEqual(multiplied(one, plain(part)), scaled(one, part))
                self.assertEqual(multiplied(plain(part), one), scaled(one, part))

    def test_two_without_pairs(self):
        self.assertEqual(multiplied(plain((2, 3)), plain((-3, 4))), ((-1, 2), ()))

    def test_two_with_pairs_are_refused(self):
        for one, other in [(single(0), single(0)), (single(0), single(1)), (TWO, OTHER), (OTHER, TWO), (TWO, TWO)]:
            self.assertRaises(NotLinear, multiplied, one, other)


class Worth(unittest.TestCase):
    def test_ordinary(self):
        values = [(1, 1), (9, 1), (9, 1), (1, 2)]
        self.assertEqual(worth(TWO, values), (7, 3))
        self.assertEqual(worth(TWO, tuple(values)), (7, 3))
        self.assertEqual(worth(single(3), values), (1, 2))

    def test_without_pairs(self):
        self.assertEqual(worth(plain((-5, 2)), []), (-5, 2))
        self.assertEqual(worth(plain((-5, 2)), ()), (-5, 2))
        self.assertEqual(worth(plain((0, 1)), VALUES), (0, 1))

    def test_all_samples(self):
        for one in SAMPLES:
            wanted = Fraction(*one[0])
            for number, part in one[1]:
                wanted = wanted + Fraction(*part) * Fraction(*VALUES[number])
            self.assertEqual(worth(one, VALUES), (wanted.numerator, wanted.denominator))
            self.assertEqual(worth(one, tuple(VALUES)), (wanted.numerator, wanted.denominator))


class NothingIsChanged(unittest.TestCase):
    def test_what_is_handed_in_stays(self):
        values = list(VALUES)
        sums = copy.deepcopy(SAMPLES)
        for one in sums:
            worth(one, values)
            scaled(one, (2, 3))
            multiplied(one, plain((2, 3)))
            for other in sums:
                added(one, other)
        self.assertEqual(values, VALUES)
        self.assertEqual(sums, SAMPLES)

    def test_values_changed_later_change_nothing(self):
        values = [(1, 1), (2, 1)]
        told = worth(single(1), values)
        values[1] = (5, 1)
        self.assertEqual(told, (2, 1))
        self.assertEqual(worth(single(1), values), (5, 1))

    def test_what_is_asked_later_changes_nothing_told(self):
        told = added(TWO, OTHER)
        kept = copy.deepcopy(told)
        added(told, told)
        scaled(told, (0, 1))
        self.assertEqual(told, kept)
        self.assertEqual(single(0), ((0, 1), ((0, (1, 1)),)))


if __name__ == "__main__":
    unittest.main()
