"""Promise 20: plans loosely solved, each answer held against sums of the test's own."""

from unittest import mock

from planwell.solving import loose
from tests.asking import Asking
from tests.grounds import Maker, is_loose_answer, worth_at


def whole(number):
    return (number, 1)


def pairs(*parts):
    return tuple((number, whole(part)) for number, part in enumerate(parts) if part != 0)


FREE = ("x", False, None, None)
LOW = ("x", False, whole(0), None)
HIGH = ("x", False, None, whole(0))
BOTH = ("x", False, whole(-2), whole(3))
EQUAL = ("x", False, (5, 2), (5, 2))


class Loose(Asking):
    def kind(self, unknowns, rows=(), goal=("least", (), (0, 1))):
        plan = (tuple(unknowns), tuple(rows), goal)
        answer = loose(plan)
        self.assertTrue(is_loose_answer(plan, answer), (plan, answer))
        # Equal plans, one behind another.
        self.assertEqual(loose((tuple(unknowns), tuple(rows), goal)), answer)
        return answer[0]

    def worth(self, unknowns, rows, goal):
        plan = (tuple(unknowns), tuple(rows), goal)
        self.assertEqual(self.kind(unknowns, rows, goal), "best")
        return worth_at(plan, loose(plan=plan)[1])

    def test_nothing_at_all(self):
        self.assertEqual(self.kind([]), "best")
        self.assertEqual(loose(((), (), ("most", (), (7, 1)))), ("best", (), ()))

    def test_rows_without_pairs(self):
        for mark, bound, kind in [
            ("<=", 0, "best"), ("<=", 1, "best"), ("<=", -1, "none"), (">=", 0, "best"), (">=", -1, "best"),
            (">=", 1, "none"), ("=", 0, "best"), ("=", 1, "none"), ("=", -1, "none"),
        ]:
            self.assertEqual(self.kind([], [("r", (), mark, whole(bound))]), kind)
            self.assertEqual(self.kind([FREE, LOW], [("r", (), mark, whole(bound))]), kind)
            self.assertEqual(self.kind([LOW], [("q", pairs(1), ">=", whole(3)), ("r", (), mark, whole(bound))]), kind)

    def test_no_rows(self):
        for unknown, part, kind in [
            (FREE, 0, "best"), (FREE, 1, "endless"), (FREE, -1, "endless"), (LOW, 1, "best"), (LOW, -1, "endless"),
            (HIGH, 1, "endless"), (HIGH, -1, "best"), (BOTH, 1, "best"), (BOTH, -1, "best"), (EQUAL, 1, "best"),
            (EQUAL, -1, "best"),
        ]:
            for way in ["least", "most"]:
                self.assertEqual(
                    self.kind([unknown], goal=(way, pairs(part if way == "least" else -part), whole(4))), kind,
                )
        self.assertEqual(self.worth([BOTH, EQUAL], [], ("least", pairs(2, 2), whole(0))), 1)
        self.assertEqual(self.worth([BOTH, EQUAL], [], ("most", pairs(2, 2), whole(0))), -11)

    def test_rows_of_each_sign(self):
        for mark, kinds in [("<=", ["best", "best", "none"]), (">=", ["none", "best", "best"]), ("=", ["none", "best", "none"])]:
            # From -2 to 3; the bounds lie below, amid and above.
            bounds = {"<=": [9, 1, -3], ">=": [4, 1, -9], "=": [4, 1, -3]}[mark]
            for bound, kind in zip(bounds, kinds):
                self.assertEqual(self.kind([BOTH], [("r", pairs(1), mark, whole(bound))], ("least", pairs(1), whole(0))), kind)
                self.assertEqual(self.kind([BOTH], [("r", pairs(-1), mark, whole(bound))], ("most", pairs(1), whole(0))),
                                 self.expected(mark, bound))

    def expected(self, mark, bound):
        lies = {"<=": -3 <= bound, ">=": 2 >= bound, "=": -3 <= bound <= 2}[mark]
        return "best" if lies else "none"

    def test_ordinary_plans(self):
        rows = [("r", pairs(2, 1), "<=", whole(18)), ("q", pairs(2, 3), "<=", whole(42)), ("p", pairs(3, 1), "<=", whole(24))]
        self.assertEqual(self.worth([LOW, LOW], rows, ("most", pairs(3, 2), whole(5))), -33)
        rows = [("r", pairs(1, 1), ">=", whole(4)), ("q", pairs(1, 3), ">=", whole(6))]
        self.assertEqual(self.worth([LOW, LOW], rows, ("least", pairs(2, 3), whole(0))), 9)
        rows = [("r", pairs(1, 1), "=", whole(10)), ("q", pairs(1, -1), "=", whole(3))]
        self.assertEqual(self.worth([FREE, FREE], rows, ("least", pairs(1, 0), whole(0))) * 2, 13)

    def test_none_by_rows_together(self):
        rows = [("r", pairs(1, 1), ">=", whole(4)), ("q", pairs(1, 1), "<=", whole(3))]
        self.assertEqual(self.kind([FREE, FREE], rows, ("least", pairs(1, 0), whole(0))), "none")
        rows = [("r", pairs(1, 1), "=", whole(4)), ("q", pairs(2, 2), "=", whole(9))]
        self.assertEqual(self.kind([LOW, LOW], rows), "none")
        rows = [("r", pairs(1, 1), ">=", whole(7))]
        self.assertEqual(self.kind([BOTH, BOTH], rows), "none")
        self.assertEqual(self.kind([BOTH, BOTH], [("r", pairs(1, 1), ">=", whole(6))]), "best")
        # A fault of one part in a thousand millions.
        rows = [("r", pairs(1), ">=", (1, 999999998)), ("q", pairs(1), "<=", (1, 999999999))]
        self.assertEqual(self.kind([FREE], rows), "none")

    def test_endless(self):
        rows = [("r", pairs(1, -1), "<=", whole(4))]
        self.assertEqual(self.kind([LOW, LOW], rows, ("most", pairs(1, 1), whole(0))), "endless")
        self.assertEqual(self.kind([LOW, BOTH], rows, ("most", pairs(1, 1), whole(0))), "best")
        rows = [("r", pairs(1, 1, 1), "=", whole(4))]
        self.assertEqual(self.kind([FREE, FREE, FREE], rows, ("least", pairs(1, 2, 1), whole(0))), "endless")
        self.assertEqual(self.kind([FREE, FREE, FREE], rows, ("least", pairs(2, 2, 2), whole(0))), "best")
        self.assertEqual(self.kind([HIGH, LOW], [("r", pairs(1, 1), "=", whole(0))], ("least", pairs(1, 0), whole(0))), "endless")

    def test_whole_unknowns_are_taken_like_others(self):
        unknown = ("x", True, whole(0), whole(9))
        self.assertEqual(
            loose(((unknown,), (("r", pairs(2), "=", whole(3)),), ("least", pairs(1), whole(0))))[:2], ("best", ((3, 2),)),
        )

    def test_rows_told_twice(self):
        row = ("r", pairs(1, 2), ">=", whole(4))
        goal = ("least", pairs(1, 1), whole(0))
        self.assertEqual(self.worth([LOW, LOW], [row], goal), 2)
        self.assertEqual(self.worth([LOW, LOW], [row, row, row], goal), 2)
        same = ("r", pairs(1, 2), "=", whole(4))
        self.assertEqual(self.worth([LOW, LOW], [same, same, row, same], goal), 2)

    def test_many_rows_cross_at_one_point(self):
        # Beale's and others' plans, in which careless steps lead round a ring.
        rows = [
            ("a", ((0, (1, 4)), (1, whole(-60)), (2, (-1, 25)), (3, whole(9))), "<=", whole(0)),
            ("b", ((0, (1, 2)), (1, whole(-90)), (2, (-1, 50)), (3, whole(3))), "<=", whole(0)),
            ("c", ((2, whole(1)),), "<=", whole(1)),
        ]
        goal = ("least", ((0, (-3, 4)), (1, whole(150)), (2, (-1, 50)), (3, whole(6))), whole(0))
        self.assertEqual(self.worth([LOW] * 4, rows, goal) * 20, -1)
        rows = [
            ("a", ((0, (1, 2)), (1, (-11, 2)), (2, (-5, 2)), (3, whole(9))), "<=", whole(0)),
            ("b", ((0, (1, 2)), (1, (-3, 2)), (2, (-1, 2)), (3, whole(1))), "<=", whole(0)),
            ("c", pairs(1), "<=", whole(1)),
        ]
        self.assertEqual(self.worth([LOW] * 4, rows, ("most", pairs(10, -57, -9, -24), whole(0))), -1)
        # All rows and all ends go through nought.
        maker = Maker(77)
        for turn in range(60):
            width = 1 + turn % 7
            rows = [(label, held, mark, whole(0)) for label, held, mark, bound in maker.plan(width, 12)[1]]
            self.kind([[LOW, HIGH, FREE][number % 3] for number in range(width)], rows, ("least", maker.pairs(width), whole(0)))

    def test_many_plans(self):
        kinds = []
        maker = Maker(1)
        for turn in range(500):
            plan = maker.plan(turn % 7, turn // 7 % 7)
            kinds.append(self.kind(plan[0], plan[1], plan[2]))
        for kind in ["best", "none", "endless"]:
            self.assertGreater(kinds.count(kind), 50)

    def test_without_haste(self):
        # The careful steps, which are taken behind many hasty ones.
        maker = Maker(4)
        with mock.patch("planwell.desk.HASTY_STEPS", 0):
            for turn in range(200):
                plan = maker.plan(1 + turn % 8, turn // 7 % 9)
                self.kind(plan[0], plan[1], plan[2])
                rows = [(label, held, mark, whole(0)) for label, held, mark, bound in plan[1]]
                self.kind(plan[0], rows, plan[2])

    def test_fractions_of_nine_figures(self):
        maker = Maker(2, figures=9)
        kinds = []
        for turn in range(60):
            plan = maker.plan(1 + turn % 6, turn % 5)
            kinds.append(self.kind(plan[0], plan[1], plan[2]))
        self.assertEqual(sorted(set(kinds)), ["best", "endless", "none"])

    def test_forty_unknowns_and_forty_rows(self):
        maker = Maker(3)
        rows = []
        for number in range(40):
            held = tuple((place, whole(maker.chance.randint(1, 9))) for place in range(40) if maker.chance.random() < 0.2)
            rows.append((f"r{number}", held, ">=", whole(maker.chance.randint(0, 30))))
        goal = ("least", pairs(*[maker.chance.randint(1, 9) for number in range(40)]), whole(0))
        self.assertEqual(self.kind([LOW] * 40, rows, goal), "best")

    def test_transport_with_ties(self):
        # Each row and each column comes to one: many bases stand for one point.
        size = 6
        unknowns = [LOW] * (size * size)
        rows = []
        for one in range(size):
            rows.append(("r", tuple((one * size + other, whole(1)) for other in range(size)), "=", whole(1)))
            rows.append(("c", tuple((other * size + one, whole(1)) for other in range(size)), "=", whole(1)))
        rows = [(label, tuple(sorted(held)), mark, bound) for label, held, mark, bound in rows]
        goal = ("least", tuple((place, whole(1 + place * place % 7)) for place in range(size * size)), whole(0))
        self.assertEqual(self.kind(unknowns, rows, goal), "best")

    def test_labels_alike_and_nothing_is_changed(self):
        plan = ((FREE, FREE), (("", pairs(1, 1), "=", whole(1)), ("", pairs(1, -1), "=", whole(1))), ("most", pairs(1), whole(0)))
        answer = loose(plan)
        self.assertEqual(answer[:2], ("best", (whole(1), whole(0))))
        self.assertIsInstance(answer[2], tuple)
