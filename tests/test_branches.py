"""Promises 21 to 23: plans narrowed, trees, and plans solved."""

import itertools
from fractions import Fraction

from planwell.branches import narrowed, shows_floor, shows_none, solved
from planwell.shows import floor, turned
from planwell.solving import loose
from tests.asking import Asking
from tests.grounds import Maker, grown, is_answer, meets_wholly, worth_at


def whole(number):
    return (number, 1)


def pairs(*parts):
    return tuple((number, whole(part)) for number, part in enumerate(parts) if part != 0)


def unknown(low, high, is_whole=True, label="x"):
    return (label, is_whole, low if low is None else whole(low), high if high is None else whole(high))


class Narrowed(Asking):
    def ends(self, low, high, by_low, by_high):
        plan = (
            (("a", True, whole(0), whole(1)), ("x", False, low, high), ("b", False, None, None)),
            (("r", pairs(1, 1), "=", whole(1)),), ("most", pairs(1), whole(7)),
        )
        made = narrowed(plan, 1, by_low, by_high)
        self.assertEqual(made[1:], plan[1:])
        self.assertEqual((made[0][0], made[0][2]), (plan[0][0], plan[0][2]))
        self.assertEqual(made[0][1][:2], ("x", False))
        self.assertEqual(plan[0][1], ("x", False, low, high))
        return made[0][1][2:]

    def test_by_nothing(self):
        self.assertEqual(self.ends(None, None, None, None), (None, None))
        self.assertEqual(self.ends((1, 2), (5, 2), None, None), ((1, 2), (5, 2)))

    def test_where_its_own_end_is_none(self):
        self.assertEqual(self.ends(None, None, -3, None), (whole(-3), None))
        self.assertEqual(self.ends(None, None, None, 0), (None, whole(0)))
        self.assertEqual(self.ends(None, None, -3, 4), (whole(-3), whole(4)))
        self.assertEqual(self.ends(None, (1, 2), -3, None), (whole(-3), (1, 2)))
        self.assertEqual(self.ends((1, 2), None, None, 4), ((1, 2), whole(4)))

    def test_where_its_own_end_lets_more_in(self):
        self.assertEqual(self.ends((1, 2), (5, 2), 1, None), (whole(1), (5, 2)))
        self.assertEqual(self.ends((1, 2), (5, 2), None, 2), ((1, 2), whole(2)))
        self.assertEqual(self.ends((1, 2), (5, 2), 1, 2), (whole(1), whole(2)))

    def test_where_its_own_end_lets_less_in(self):
        self.assertEqual(self.ends((1, 2), (5, 2), 0, 3), ((1, 2), (5, 2)))
        self.assertEqual(self.ends((1, 2), (5, 2), -9, None), ((1, 2), (5, 2)))
        self.assertEqual(self.ends((1, 2), (5, 2), None, 9), ((1, 2), (5, 2)))
        self.assertEqual(self.ends(whole(1), whole(2), 1, 2), (whole(1), whole(2)))
        self.assertEqual(self.ends((1, 2), (5, 2), 0, 2), ((1, 2), whole(2)))

    def test_beyond_the_other_end(self):
        self.assertEqual(self.ends(whole(1), whole(2), 5, None), (whole(5), whole(2)))

    def test_again_at_the_same_unknown(self):
        plan = ((unknown(0, 9),), (), ("least", (), whole(0)))
        once = narrowed(plan, 0, None, 6)
        twice = narrowed(once, 0, 2, 7)
        self.assertEqual([made[0][0][2:] for made in [plan, once, twice]],
                         [(whole(0), whole(9)), (whole(0), whole(6)), (whole(2), whole(6))])
        self.assertEqual(narrowed(plan=plan, number=0, low=3, high=None)[0], (unknown(3, 9),))


# 2 x is 3 at least and 2 y 5 at most, x + y is to be least with x from 0 to 4: 2 is the least worth.
SPLIT_PLAN = (
    (unknown(0, 4), ("y", False, whole(0), whole(9))),
    (("r", pairs(2, 0), ">=", whole(3)), ("q", pairs(0, 2), "<=", whole(5))),
    ("least", pairs(1, 1), whole(100)),
)
TREE = ("split", 0, 1, ("none", (whole(1), whole(0))), ("floor", (whole(0), whole(0))))
NONE_PLAN = (
    (unknown(0, 4), ("y", False, whole(0), whole(9))),
    (("r", pairs(2, 0), ">=", whole(3)), ("q", pairs(2, 0), "<=", whole(3))), ("most", pairs(1, 1), whole(0)),
)
NONE_TREE = ("split", 0, 1, ("none", (whole(1), whole(0))), ("none", (whole(0), whole(-1))))


def swapped(tree, place, thing):
    return tree[:place] + (thing,) + tree[place + 1:]


class Trees(Asking):
    def test_a_tree_that_shows_a_floor(self):
        self.assertIs(shows_floor(SPLIT_PLAN, TREE, whole(2)), True)
        self.assertIs(shows_floor(SPLIT_PLAN, TREE, whole(1)), True)
        self.assertIs(shows_floor(plan=SPLIT_PLAN, tree=TREE, least=(21, 10)), False)
        self.assertIs(shows_none(SPLIT_PLAN, TREE), False)

    def test_a_tree_that_shows_none(self):
        self.assertIs(shows_none(NONE_PLAN, NONE_TREE), True)
        self.assertIs(shows_none(plan=NONE_PLAN, tree=NONE_TREE), True)
        # Where there is no plan there is none with a worth below anything.
        self.assertIs(shows_floor(NONE_PLAN, NONE_TREE, whole(10 ** 9)), True)

    def test_leaves_alone(self):
        nil = (whole(0), whole(0))
        self.assertIs(shows_floor(SPLIT_PLAN, ("floor", nil), whole(0)), True)
        self.assertIs(shows_floor(SPLIT_PLAN, ("floor", nil), (1, 9)), False)
        self.assertIs(shows_floor(SPLIT_PLAN, ("floor", ((1, 2), whole(0))), (3, 2)), True)
        self.assertIs(shows_floor(SPLIT_PLAN, ("none", nil), whole(-9)), False)
        self.assertIs(shows_none(SPLIT_PLAN, ("none", nil)), False)
        self.assertIs(shows_none(SPLIT_PLAN, ("floor", nil)), False)
        self.assertIs(shows_none(NONE_PLAN, ("none", nil)), False)

    def test_the_goal_is_turned(self):
        plan = SPLIT_PLAN[:2] + (("most", pairs(1, 1), whole(100)),)
        # For most the worth by the turned goal is that of -x - y: no less than -4 - 5/2.
        tree = ("floor", (whole(0), (-1, 2)))
        self.assertIs(shows_floor(plan, tree, (-13, 2)), True)
        self.assertIs(shows_floor(plan, tree, whole(-6)), False)

    def test_a_price_other(self):
        for tree in [
            swapped(TREE, 3, ("none", (whole(0), whole(0)))), swapped(TREE, 3, ("none", (whole(-1), whole(0)))),
            swapped(TREE, 4, ("floor", (whole(0), (1, 2)))), swapped(TREE, 4, ("floor", (whole(-1), whole(0)))),
            swapped(TREE, 4, ("floor", (whole(1), whole(0)))),
        ]:
            self.assertIs(shows_floor(SPLIT_PLAN, tree, whole(2)), False, tree)
        for tree in [
            swapped(NONE_TREE, 3, ("none", (whole(0), whole(0)))), swapped(NONE_TREE, 4, ("none", (whole(0), whole(1)))),
            swapped(NONE_TREE, 4, ("none", (whole(1), whole(0)))),
        ]:
            self.assertIs(shows_none(NONE_PLAN, tree), False, tree)

    def test_the_place_of_the_split_other(self):
        for k in [-2, -1, 0, 2, 3, 4, 5]:
            self.assertIs(shows_floor(SPLIT_PLAN, swapped(TREE, 2, k), whole(2)), False, k)
            self.assertIs(shows_none(NONE_PLAN, swapped(NONE_TREE, 2, k)), False, k)

    def test_between_the_ends(self):
        plan = ((unknown(0, 2),), (("r", (), ">=", whole(1)),), ("least", (), whole(0)))
        leaf = ("none", (whole(1),))
        self.assertIs(shows_none(plan, leaf), True)
        for k, fine in [(-1, False), (0, True), (1, True), (2, False), (3, False), (whole(1), False), ((1, 2), False)]:
            self.assertIs(shows_none(plan, ("split", 0, k, leaf, leaf)), fine)
            self.assertIs(shows_floor(plan, ("split", 0, k, leaf, leaf), whole(0)), fine)
        # The ends are those of the plan narrowed so far.
        for k, one, other in [(0, 0, 1), (0, -1, 1), (0, 1, 1), (0, 0, 0), (1, 0, 1), (1, 1, 1), (1, 0, 2), (1, 0, 0)]:
            left = ("split", 0, one, leaf, leaf)
            right = ("split", 0, other, leaf, leaf)
            self.assertIs(shows_none(plan, ("split", 0, k, left, leaf)), k == 1 and one == 0)
            self.assertIs(shows_none(plan, ("split", 0, k, leaf, right)), k == 0 and other == 1)

    def test_whole_unknowns_without_ends(self):
        leaf = ("none", (whole(1),))
        for low, high, fine in [(None, None, [-9, 0, 9]), (0, None, [0, 9]), (None, 0, [-9])]:
            plan = ((unknown(low, high),), (("r", (), ">=", whole(1)),), ("least", (), whole(0)))
            for k in [-9, 0, 9]:
                self.assertIs(shows_none(plan, ("split", 0, k, leaf, leaf)), k in fine)

    def test_the_number_other(self):
        for number in [-2, -1, 1, 2, 3, 40]:
            self.assertIs(shows_floor(SPLIT_PLAN, swapped(TREE, 1, number), whole(2)), False, number)
            self.assertIs(shows_none(NONE_PLAN, swapped(NONE_TREE, 1, number)), False, number)
        # Where both leaves would show it, a split at an unknown that isn't whole or isn't there still shows nothing.
        plan = ((unknown(0, 2), unknown(0, 2, False)), (("r", (), ">=", whole(1)),), ("least", (), whole(0)))
        leaf = ("none", (whole(1),))
        for number, fine in [(0, True), (1, False), (2, False), (-1, False), (-2, False), (whole(0), False)]:
            self.assertIs(shows_none(plan, ("split", number, 1, leaf, leaf)), fine)
            self.assertIs(shows_floor(plan, ("split", number, 1, leaf, leaf), whole(0)), fine)

    def test_the_two_sides_exchanged(self):
        self.assertIs(shows_floor(SPLIT_PLAN, TREE[:3] + (TREE[4], TREE[3]), whole(2)), False)
        self.assertIs(shows_none(NONE_PLAN, NONE_TREE[:3] + (NONE_TREE[4], NONE_TREE[3])), False)

    def test_a_leaf_of_the_other_kind(self):
        prices = ((1, 10), whole(0))
        self.assertIs(shows_floor(SPLIT_PLAN, swapped(TREE, 3, ("none", prices)), whole(2)), True)
        self.assertIs(shows_floor(SPLIT_PLAN, swapped(TREE, 3, ("floor", prices)), whole(2)), False)
        self.assertIs(shows_floor(SPLIT_PLAN, swapped(TREE, 4, ("none",) + TREE[4][1:]), whole(2)), False)
        for place in [3, 4]:
            tree = swapped(NONE_TREE, place, ("floor",) + NONE_TREE[place][1:])
            self.assertIs(shows_none(NONE_PLAN, tree), False)

    def test_prices_of_another_number(self):
        for prices in [(), (whole(1),), (whole(1), whole(0), whole(0))]:
            self.assertIs(shows_floor(SPLIT_PLAN, swapped(TREE, 3, ("none", prices)), whole(2)), False)
            self.assertIs(shows_none(NONE_PLAN, swapped(NONE_TREE, 3, ("none", prices))), False)

    def test_very_deep_trees(self):
        width = 40
        plan = ((unknown(0, 100),) * width, (("r", (), ">=", whole(1)),), ("least", (), whole(0)))
        leaf = ("none", (whole(1),))
        tree = leaf
        for number in range(width):
            for k in range(100):
                tree = ("split", number, k, tree, leaf)
        # From the top down k falls from 99 to 0 at each unknown.
        self.assertIs(shows_none(plan, tree), True)
        self.assertIs(shows_floor(plan, tree, whole(5)), True)
        self.assertIs(shows_none(plan, ("split", 0, 0, leaf, tree)), False)


class Solved(Asking):
    def answer(self, unknowns, rows=(), goal=("least", (), (0, 1))):
        plan = (tuple(unknowns), tuple(rows), goal)
        answer = solved(plan)
        self.assertTrue(is_answer(plan, answer), (plan, answer))
        self.check_by_the_program(plan, answer)
        # Equal plans, one behind another.
        self.assertEqual(solved(plan=(tuple(list(unknowns)), tuple(list(rows)), goal)), answer)
        return answer

    def check_by_the_program(self, plan, answer):
        if answer[0] == "best":
            worth = worth_at(plan, answer[1])
            just_more = worth + Fraction(1, 10 ** 9)
            self.assertIs(shows_floor(plan, answer[2], (worth.numerator, worth.denominator)), True)
            self.assertIs(shows_floor(plan, answer[2], (just_more.numerator, just_more.denominator)), False)
        if answer[0] == "none":
            self.assertIs(shows_none(plan, answer[1]), True)

    def worth(self, unknowns, rows, goal):
        answer = self.answer(unknowns, rows, goal)
        self.assertEqual(answer[0], "best")
        return worth_at((tuple(unknowns), tuple(rows), goal), answer[1])

    def test_without_whole_unknowns(self):
        self.assertEqual(solved(((), (), ("least", (), whole(0)))), ("best", (), ("floor", ())))
        maker = Maker(11)
        for turn in range(100):
            plan = maker.plan(turn % 5, turn // 5 % 5)
            self.assertEqual(self.answer(plan[0], plan[1], plan[2])[0], loose(plan)[0])

    def test_ordinary_plans(self):
        rows = [("r", pairs(5, 4), "<=", whole(24)), ("q", pairs(1, 2), "<=", whole(6))]
        self.assertEqual(self.worth([unknown(0, 9)] * 2, rows, ("most", pairs(5, 4), whole(1))), -24)
        rows = [("r", pairs(3, 5, 7), "<=", whole(10))]
        self.assertEqual(self.worth([unknown(0, 1)] * 3, rows, ("most", pairs(4, 6, 9), whole(0))), -13)
        rows = [("r", pairs(2, 4), "=", whole(7))]
        self.assertEqual(self.answer([unknown(0, 9)] * 2, rows)[0], "none")
        self.assertEqual(self.worth([unknown(0, 9), unknown(0, 9, False)], rows, ("least", pairs(0, 1), whole(0))) * 4, 1)

    def test_equal_ends(self):
        self.assertEqual(self.worth([unknown(7, 7)], [], ("most", pairs(1), whole(0))), -7)
        self.assertEqual(self.answer([unknown(7, 7)], [("r", pairs(2), "=", whole(15))])[0], "none")

    def tried(self, plan):
        best = None
        spans = [range(low[0], high[0] + 1) for label, is_whole, low, high in plan[0]]
        for tuple_of_values in itertools.product(*spans):
            values = tuple(whole(value) for value in tuple_of_values)
            if meets_wholly(plan, values) and (best is None or worth_at(plan, values) < best):
                best = worth_at(plan, values)
        return best

    def test_by_trying_all_values(self):
        maker = Maker(12)
        kinds = []
        for turn in range(250):
            plan = maker.plan(turn % 4 + 1, turn // 4 % 4, whole=1.0)
            answer = self.answer(plan[0], plan[1], plan[2])
            best = self.tried(plan)
            kinds.append(answer[0])
            self.assertEqual(answer[0], "none" if best is None else "best")
            if best is not None:
                self.assertEqual(worth_at(plan, answer[1]), best)
        self.assertGreater(kinds.count("best"), 50)
        self.assertGreater(kinds.count("none"), 50)

    def test_by_trying_all_values_of_the_whole_ones(self):
        maker = Maker(13)
        kinds = []
        for turn in range(200):
            plan = maker.plan(turn % 3 + 2, turn // 3 % 4, whole=0.5, between=3)
            answer = self.answer(plan[0], plan[1], plan[2])
            kinds.append(answer[0])
            self.assertEqual(answer[0], self.kind_by_fixing(plan))
        for kind in ["best", "none", "endless"]:
            self.assertGreater(kinds.count(kind), 10)

    def kind_by_fixing(self, plan):
        spans = [range(low[0], high[0] + 1) if is_whole else [None] for label, is_whole, low, high in plan[0]]
        kinds = []
        for values in itertools.product(*spans):
            unknowns = tuple(
                held if value is None else (held[0], True, whole(value), whole(value)) for held, value in zip(plan[0], values)
            )
            kinds.append(loose((unknowns,) + plan[1:])[0])
        return [kind for kind in ["endless", "best", "none"] if kind in kinds][0]

    def test_none_where_it_is_loosely_endless(self):
        unknowns = [unknown(0, 9), unknown(0, 9), unknown(None, None, False)]
        rows = [("r", pairs(2, 2), "=", whole(7))]
        goal = ("least", pairs(0, 0, 1), whole(0))
        self.assertEqual(loose((tuple(unknowns), tuple(rows), goal))[0], "endless")
        answer = self.answer(unknowns, rows, goal)
        self.assertEqual(answer[0], "none")
        self.assertEqual(answer[1][0], "split")

    def test_endless_with_whole_unknowns_beside(self):
        unknowns = [unknown(0, 9), unknown(0, 9), unknown(None, None, False)]
        rows = [("r", pairs(2, 3), "=", whole(7)), ("q", pairs(3, -3, 1), "<=", whole(7))]
        for way, part in [("least", 1), ("most", -1)]:
            answer = self.answer(unknowns, rows, (way, pairs(0, 0, part), whole(0)))
            self.assertEqual(answer[0], "endless")
            self.assertEqual(answer[1][:2], (whole(2), whole(1)))
            self.assertEqual(answer[2][:2], (whole(0), whole(0)))

    def test_split_often(self):
        # 2 x - 2 y is odd for no whole x and y; each value of x has to be told apart.
        rows = [("r", pairs(2, -2), "=", whole(1))]
        answer = self.answer([unknown(0, 100), unknown(0, 100)], rows, ("most", pairs(1), whole(0)))
        self.assertEqual(answer[0], "none")
        rows = [("r", pairs(7, 11), "=", whole(59))]
        self.assertEqual(self.answer([unknown(0, 100), unknown(0, 100)], rows)[0], "none")
        rows = [("r", pairs(6, 10, 15), "=", whole(629))]
        self.assertEqual(self.answer([unknown(0, 100)] * 3, rows, ("most", pairs(1, 0, 0), whole(0)))[0], "best")
        rows = [("r", ((0, whole(1)), (1, (-1, 100))), "=", (1, 2))]
        self.assertEqual(
            self.worth([unknown(0, 100), unknown(None, 9999, False)], rows, ("most", ((0, whole(1)), (1, (-1, 200))), whole(0))),
            Fraction(-201, 4),
        )

    def test_a_knapsack(self):
        weights = [12, 7, 11, 8, 9, 6, 13, 5]
        worths = [24, 13, 23, 15, 16, 11, 27, 9]
        rows = [("r", pairs(*weights), "<=", whole(26))]
        best = max(
            sum(worth for worth, taken in zip(worths, choice) if taken)
            for choice in itertools.product([0, 1], repeat=8)
            if sum(weight for weight, taken in zip(weights, choice) if taken) <= 26
        )
        self.assertEqual(self.worth([unknown(0, 1)] * 8, rows, ("most", pairs(*worths), whole(0))), -best)

    def test_what_is_told_is_of_tuples(self):
        answer = solved(SPLIT_PLAN)
        self.assertEqual(answer[:2], ("best", (whole(2), whole(0))))
        self.assertEqual(answer[2][:3], ("split", 0, 1))
        self.assertIsInstance(answer[2], tuple)
        self.assertEqual(grown(floor(SPLIT_PLAN, turned(SPLIT_PLAN), (whole(0), whole(0)))), 0)
