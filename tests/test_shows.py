"""Promises 17, 18 and 19: values that meet a plan, floors, and ways on."""

from planwell.shows import floor, leads_on, loosely_meets, meets, turned, worth_of
from tests.asking import Asking

EMPTY = ((), (), ("least", (), (0, 1)))


def whole(number):
    return (number, 1)


def plan(unknowns=(), rows=(), goal=("least", (), (0, 1))):
    return (tuple(unknowns), tuple(rows), goal)


FREE = ("x", False, None, None)
LOW = ("x", False, whole(2), None)
HIGH = ("x", False, None, whole(5))
BOTH = ("x", False, (1, 2), (5, 2))
WHOLE = ("x", True, whole(0), whole(9))


class Meeting(Asking):
    def both(self, asked, values, expected):
        self.assertIs(meets(asked, values), expected)
        self.assertIs(loosely_meets(asked, values), expected)

    def test_no_unknowns_and_no_rows(self):
        self.both(EMPTY, (), True)
        self.both(plan(rows=[("r", (), "<=", whole(0))]), (), True)
        self.both(plan(rows=[("r", (), "<=", whole(-1))]), (), False)
        self.both(plan(rows=[("r", (), ">=", whole(0))]), (), True)
        self.both(plan(rows=[("r", (), ">=", whole(1))]), (), False)
        self.both(plan(rows=[("r", (), "=", whole(0))]), (), True)
        self.both(plan(rows=[("r", (), "=", whole(1))]), (), False)

    def test_each_sign_just_met_and_just_not(self):
        for mark, fine, wrong in [
            ("<=", [(3, 2), (1499999, 1000000), whole(-9)], [(1500001, 1000000), whole(2)]),
            (">=", [(3, 2), (1500001, 1000000), whole(2)], [(1499999, 1000000), whole(-9)]),
            ("=", [(3, 2)], [(1500001, 1000000), (1499999, 1000000)]),
        ]:
            asked = plan([FREE], [("r", ((0, whole(2)),), mark, whole(3))])
            for value in fine:
                self.both(asked, (value,), True)
            for value in wrong:
                self.both(asked, (value,), False)

    def test_pairs_of_several_unknowns(self):
        rows = [("r", ((0, (1, 2)), (2, whole(-3))), "=", (1, 3))]
        asked = plan([FREE, FREE, FREE], rows)
        self.both(asked, (whole(2), whole(77), (2, 9)), True)
        self.both(asked, (whole(2), whole(77), (2, 7)), False)

    def test_every_row_counts(self):
        rows = [("r", ((0, whole(1)),), ">=", whole(1)), ("r", ((0, whole(1)),), "<=", whole(2))]
        for value, expected in [(whole(0), False), (whole(1), True), (whole(2), True), (whole(3), False)]:
            self.both(plan([FREE], rows), (value,), expected)

    def test_ends(self):
        for unknown, value, expected in [
            (FREE, whole(-999), True), (LOW, whole(2), True), (LOW, (19, 10), False), (LOW, whole(99), True),
            (HIGH, whole(5), True), (HIGH, (51, 10), False), (HIGH, whole(-99), True), (BOTH, (1, 2), True),
            (BOTH, (5, 2), True), (BOTH, (49, 100), False), (BOTH, (251, 100), False),
        ]:
            self.both(plan([unknown]), (value,), expected)
            self.both(plan([FREE, unknown]), (whole(7), value), expected)

    def test_whole_unknowns(self):
        asked = plan([WHOLE, FREE])
        self.both(asked, (whole(3), (1, 2)), True)
        self.assertIs(meets(asked, ((1, 2), (1, 2))), False)
        self.assertIs(loosely_meets(asked, ((1, 2), (1, 2))), True)
        self.both(asked, (whole(10), (1, 2)), False)

    def test_another_number_of_values(self):
        self.both(plan([FREE]), (), False)
        self.both(plan([FREE]), (whole(1), whole(1)), False)

    def test_labels_alike(self):
        asked = plan([FREE, FREE], [("x", ((0, whole(1)),), "=", whole(1)), ("x", ((1, whole(1)),), "=", whole(2))])
        self.both(asked, (whole(1), whole(2)), True)
        self.both(asked, (whole(2), whole(1)), False)


class Worth(Asking):
    def test_worth(self):
        self.assertEqual(worth_of(EMPTY, ()), whole(0))
        pairs = ((0, whole(2)), (1, (-1, 3)))
        for way in ["least", "most"]:
            asked = plan([FREE, FREE], goal=(way, pairs, (1, 2)))
            self.assertEqual(worth_of(asked, (whole(1), whole(1))), (13, 6))
            self.assertEqual(worth_of(plan=asked, values=((1, 4), whole(0))), whole(1))

    def test_turned(self):
        pairs = ((0, whole(2)), (3, (-1, 3)))
        self.assertEqual(turned(plan(goal=("least", pairs, whole(9)))), pairs)
        self.assertEqual(turned(plan(goal=("most", pairs, whole(9)))), ((0, whole(-2)), (3, (1, 3))))
        self.assertEqual(turned(plan(goal=("most", (), whole(9)))), ())


class Floor(Asking):
    def test_no_rows(self):
        self.assertEqual(floor(EMPTY, (), ()), whole(0))
        for unknown, part, expected in [
            (LOW, whole(3), whole(6)), (LOW, whole(-3), None), (HIGH, whole(3), None), (HIGH, whole(-3), whole(-15)),
            (BOTH, whole(1), (1, 2)), (BOTH, whole(-1), (-5, 2)), (FREE, whole(1), None), (FREE, whole(-1), None),
            (WHOLE, whole(2), whole(0)), (WHOLE, whole(-2), whole(-18)),
        ]:
            self.assertEqual(floor(plan([unknown]), ((0, part),), ()), expected)
            self.assertEqual(floor(plan([FREE, unknown]), ((1, part),), ()), expected)
        self.assertEqual(floor(plan([FREE]), (), ()), whole(0))

    def test_prices_of_each_sign(self):
        for mark, fine in [(">=", [0, 1]), ("<=", [-1, 0]), ("=", [-1, 0, 1])]:
            for price in [-1, 0, 1]:
                asked = plan([BOTH], [("r", ((0, whole(2)),), mark, whole(3))])
                # What is left is -2 times the price, so the end is the high one for a price above nought.
                expected = {-1: whole(-2), 0: whole(0), 1: whole(-2)}[price] if price in fine else None
                self.assertEqual(floor(asked, (), (whole(price),)), expected, (mark, price))

    def test_what_is_left(self):
        rows = [("r", ((0, whole(1)), (1, whole(1))), ">=", whole(4)), ("q", ((1, whole(2)),), "<=", whole(7))]
        asked = plan([LOW, FREE], rows)
        pairs = ((0, whole(3)), (1, whole(1)))
        # 3 - 2 of the first is left at its low, 2; and of the second 1 - 2 + 1, nought.
        self.assertEqual(floor(asked, pairs, (whole(2), (-1, 2))), (13, 2))
        self.assertIsNone(floor(asked, pairs, (whole(2), whole(0))))
        self.assertIsNone(floor(asked, pairs, (whole(0), whole(0))))
        self.assertEqual(floor(asked, pairs, (whole(1), whole(0))), whole(8))
        self.assertIsNone(floor(asked, pairs, (whole(4), (-3, 2))))
        self.assertEqual(floor(asked, pairs, (whole(3), whole(-1))), whole(5))

    def test_an_end_that_is_not_wanted_may_lack(self):
        rows = [("r", ((0, whole(1)),), "=", whole(4))]
        self.assertEqual(floor(plan([FREE], rows), ((0, whole(5)),), (whole(5),)), whole(20))
        self.assertIsNone(floor(plan([FREE], rows), ((0, whole(5)),), (whole(4),)))
        self.assertEqual(floor(plan([LOW], rows), ((0, whole(5)),), (whole(4),)), whole(18))
        self.assertIsNone(floor(plan([LOW], rows), ((0, whole(5)),), (whole(6),)))
        self.assertEqual(floor(plan([HIGH], rows), ((0, whole(5)),), (whole(6),)), whole(19))

    def test_rows_without_pairs(self):
        rows = [("r", (), ">=", whole(1)), ("q", (), "<=", whole(0))]
        self.assertEqual(floor(plan([FREE], rows), (), (whole(3), whole(-9))), whole(3))
        self.assertIsNone(floor(plan([FREE], rows), (), (whole(3), whole(1))))
        self.assertEqual(floor(plan=plan([], rows), pairs=(), prices=(whole(0), whole(0))), whole(0))

    def test_fractions(self):
        rows = [("r", ((0, (1, 3)),), ">=", (5, 7))]
        self.assertEqual(floor(plan([BOTH], rows), ((0, (1, 2)),), ((1, 2),)), (11, 21))

    def test_another_number_of_prices(self):
        rows = [("r", ((0, whole(1)),), "=", whole(4))]
        self.assertIsNone(floor(plan([FREE], rows), (), ()))
        self.assertIsNone(floor(plan([FREE], rows), (), (whole(0), whole(0))))


class LeadsOn(Asking):
    GOAL = ("least", ((0, whole(-1)),), whole(0))

    def test_ends(self):
        for unknown, step, expected in [
            (FREE, 1, True), (LOW, 1, True), (HIGH, 1, False), (BOTH, 1, False), (FREE, 0, False),
        ]:
            self.assertIs(leads_on(plan([unknown], goal=self.GOAL), (whole(step),)), expected)
        up = ("least", ((0, whole(1)),), whole(0))
        for unknown, step, expected in [
            (FREE, -1, True), (LOW, -1, False), (HIGH, -1, True), (BOTH, -1, False), (FREE, 0, False),
        ]:
            self.assertIs(leads_on(plan([unknown], goal=up), (whole(step),)), expected)
        # An end of its own does no harm to what stands still.
        self.assertIs(leads_on(plan([FREE, BOTH], goal=self.GOAL), (whole(1), whole(0))), True)
        self.assertIs(leads_on(plan([FREE, LOW], goal=self.GOAL), (whole(1), whole(-1))), False)
        self.assertIs(leads_on(plan([FREE, HIGH], goal=self.GOAL), (whole(1), (1, 9))), False)

    def test_rows(self):
        for mark, fine in [(">=", [0, 1]), ("<=", [-1, 0]), ("=", [0])]:
            for step in [-1, 0, 1]:
                # The bound doesn't matter, but what the pairs come to along the way.
                for bound in [-5, 0, 5]:
                    rows = [("r", ((1, whole(3)),), mark, whole(bound))]
                    asked = plan([FREE, FREE], rows, self.GOAL)
                    self.assertIs(leads_on(asked, (whole(1), whole(step))), step in fine)
        rows = [("r", ((0, whole(2)), (1, whole(-1))), "=", whole(0))]
        self.assertIs(leads_on(plan([FREE, FREE], rows, self.GOAL), (whole(1), whole(2))), True)
        self.assertIs(leads_on(plan([FREE, FREE], rows, self.GOAL), (whole(1), whole(1))), False)

    def test_goal(self):
        for way, step in [("least", 1), ("most", -1)]:
            goal = (way, ((0, whole(-1)),), whole(-100))
            for tried in [-1, 0, 1]:
                self.assertIs(leads_on(plan([FREE], goal=goal), (whole(tried),)), tried == step)
        self.assertIs(leads_on(plan([FREE], goal=("least", (), whole(-1))), (whole(1),)), False)
        self.assertIs(leads_on(plan=EMPTY, way=()), False)

    def test_another_number_of_steps(self):
        self.assertIs(leads_on(plan([FREE], goal=self.GOAL), (whole(1), whole(0))), False)
        self.assertIs(leads_on(plan([FREE, FREE], goal=self.GOAL), (whole(1),)), False)
