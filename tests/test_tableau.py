"""Tableaus: pivots and values."""

from fractions import Fraction

from planwell.fractions import is_fraction
from planwell.tableau import pivoted, value
from tests.asking import Asking

SAMPLES = [
    ([[2]], 1), ([[-3]], 4), ([[1, 2], [3, 4]], 1), ([[4, -6, 0], [3, 5, 7], [0, 2, -1]], 1),
    ([[4, -6, 0], [3, 5, 7], [0, 2, -1]], 6), ([[1, 2, 3]], 5), ([[2], [0], [-7]], 3),
    ([[123456789, -987654321], [10 ** 20, 7]], 10 ** 9 + 7),
]


def grown(tableau):
    rows, scale = tableau
    return [[Fraction(number, scale) for number in row] for row in rows]


def expected(tableau, at, column):
    held = grown(tableau)
    top = [number / held[at][column] for number in held[at]]
    return [
        top if place == at else [number - row[column] * taken for number, taken in zip(row, top)]
        for place, row in enumerate(held)
    ]


class Pivoted(Asking):
    def check_form(self, tableau):
        self.assertIsInstance(tableau, tuple)
        rows, scale = tableau
        self.assertIsInstance(rows, list)
        self.assertIs(type(scale), int)
        self.assertGreaterEqual(scale, 1)
        for row in rows:
            self.assertIsInstance(row, list)
            self.assertEqual(len(row), len(rows[0]))
            for number in row:
                self.assertIs(type(number), int)

    def test_at_each_number_that_is_not_nought(self):
        for tableau in SAMPLES:
            for at, row in enumerate(tableau[0]):
                for column, number in enumerate(row):
                    if number != 0:
                        made = pivoted(tableau, at, column)
                        self.check_form(made)
                        self.assertEqual(grown(made), expected(tableau, at, column))

    def test_by_hand(self):
        made = pivoted(tableau=([[2, 4], [3, 5]], 1), at=0, column=0)
        self.assertEqual(grown(made), [[1, 2], [0, -1]])
        self.assertEqual(grown(pivoted(([[-2, 4], [3, 5]], 2), 0, 0)), [[1, -2], [0, Fraction(11, 2)]])

    def test_one_behind_another(self):
        for tableau in SAMPLES:
            wanted = grown(tableau)
            made = tableau
            for step in range(6):
                spots = [
                    (at, column) for at, row in enumerate(made[0]) for column, number in enumerate(row) if number != 0
                ]
                at, column = spots[(step * 5) % len(spots)]
                wanted = expected(made, at, column)
                made = pivoted(made, at, column)
                self.check_form(made)
                self.assertEqual(grown(made), wanted)

    def test_from_scale_one_on_numbers_stay_small(self):
        rows = [[(7 * at * at + 5 * column + at * column) % 19 - 9 for column in range(16)] for at in range(8)]
        made = (rows, 1)
        for at in range(8):
            column = [place for place, number in enumerate(made[0][at]) if number != 0][0]
            made = pivoted(made, at, column)
        # All are parts of eight rows and columns of numbers up to 9.
        self.assertLess(max(abs(number) for row in made[0] for number in row), 26 ** 8)

    def test_the_tableau_stays(self):
        for tableau in SAMPLES:
            ahead = ([list(row) for row in tableau[0]], tableau[1])
            made = pivoted(tableau, 0, 0)
            self.assertEqual(tableau, ahead)
            for row in made[0]:
                row[0] = 99
            made[0].clear()
            self.assertEqual(tableau, ahead)


class Values(Asking):
    def test_in_lowest_terms(self):
        tableau = ([[4, -6, 0], [3, 5, 7]], 6)
        for at, column, told in [(0, 0, (2, 3)), (0, 1, (-1, 1)), (0, 2, (0, 1)), (1, 0, (1, 2)), (1, 1, (5, 6))]:
            self.assertEqual(value(tableau, at, column), told)
        self.assertEqual(value(tableau=([[7]], 1), at=0, column=0), (7, 1))

    def test_behind_a_pivot(self):
        for tableau in SAMPLES:
            made = pivoted(tableau, 0, 0)
            for at, row in enumerate(expected(tableau, 0, 0)):
                for column, number in enumerate(row):
                    told = value(made, at, column)
                    self.assertTrue(is_fraction(told))
                    self.assertEqual(Fraction(told[0], told[1]), number)
