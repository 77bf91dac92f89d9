"""Promises 24 and 25: answers and grounds as rows of text, and grounds read again."""

from planwell.branches import solved
from planwell.telling import answer_rows, grounds_rows, read_grounds
from tests.asking import Asking
from tests.grounds import Maker


def whole(number):
    return (number, 1)


EMPTY = ((), (), ("least", (), whole(0)))
PLAN = (
    (("bake(bread)", True, whole(0), whole(9)), ("buy", False, None, None)),
    (("r", ((0, whole(1)),), ">=", whole(1)), ("q", ((1, whole(1)),), "=", whole(2))),
    ("most", ((0, whole(-2)), (1, (1, 2))), whole(7)),
)
VALUES = ((3, 1), (-5, 2))
LEAF = ("floor", ((1, 2), (-3, 1)))
TORN = ("none", ((0, 1), (-2, 3)))
TREE = ("split", 0, 4, ("split", 0, -1, LEAF, TORN), ("split", 1, 7, TORN, ("split", 0, 5, LEAF, LEAF)))
TREE_ROWS = [
    "split bake(bread) 4", "  split bake(bread) -1", "    floor 1/2 -3", "    none 0 -2/3", "  split buy 7",
    "    none 0 -2/3", "    split bake(bread) 5", "      floor 1/2 -3", "      floor 1/2 -3",
]


class Answers(Asking):
    def test_best(self):
        self.assertEqual(answer_rows(PLAN, ("best", VALUES, LEAF)), ["best -1/4", "bake(bread) = 3", "buy = -5/2"])
        least = PLAN[:2] + (("least",) + PLAN[2][1:],)
        self.assertEqual(answer_rows(least, ("best", VALUES, TREE)), ["best -1/4", "bake(bread) = 3", "buy = -5/2"])
        self.assertEqual(answer_rows(plan=EMPTY, outcome=("best", (), ("floor", ()))), ["best 0"])

    def test_none(self):
        self.assertEqual(answer_rows(PLAN, ("none", TREE)), ["none"])
        self.assertEqual(answer_rows(EMPTY, ("none", ("none", ()))), ["none"])
        # It doesn't look at what stands behind.
        self.assertEqual(answer_rows(PLAN, ("none", VALUES)), ["none"])

    def test_endless(self):
        self.assertEqual(answer_rows(PLAN, ("endless", VALUES, VALUES)), ["endless", "bake(bread) = 3", "buy = -5/2"])
        self.assertEqual(answer_rows(EMPTY, ("endless", (), ())), ["endless"])

    def test_labels_of_any_kind(self):
        plan = ((("", False, None, None), (" a = b ", False, None, None), ("", False, None, None)), (), EMPTY[2])
        values = (whole(0), (1, 3), whole(-1))
        self.assertEqual(answer_rows(plan, ("best", values, LEAF)), ["best 0", " = 0", " a = b  = 1/3", " = -1"])

    def test_lists_are_the_askers_own(self):
        outcome = ("best", VALUES, TREE)
        for ask in [answer_rows, grounds_rows]:
            first = ask(PLAN, outcome)
            ahead = list(first)
            first.clear()
            self.assertEqual(ask(PLAN, outcome), ahead)


class Grounds(Asking):
    def test_leaves(self):
        self.assertEqual(grounds_rows(PLAN, ("best", VALUES, LEAF)), ["floor 1/2 -3"])
        self.assertEqual(grounds_rows(plan=PLAN, outcome=("none", TORN)), ["none 0 -2/3"])

    def test_without_rows_in_the_plan(self):
        plan = (PLAN[0], (), PLAN[2])
        self.assertEqual(grounds_rows(plan, ("best", VALUES, ("floor", ()))), ["floor"])
        self.assertEqual(grounds_rows(plan, ("none", ("none", ()))), ["none"])
        tree = ("split", 0, 1, ("floor", ()), ("none", ()))
        self.assertEqual(grounds_rows(plan, ("best", VALUES, tree)), ["split bake(bread) 1", "  floor", "  none"])
        for tree in [tree, ("floor", ()), ("none", ())]:
            self.assertEqual(read_grounds(plan, grounds_rows(plan, ("best", VALUES, tree))), tree)

    def test_splits(self):
        self.assertEqual(grounds_rows(PLAN, ("best", VALUES, TREE)), TREE_ROWS)
        self.assertEqual(grounds_rows(PLAN, ("none", TREE)), TREE_ROWS)

    def test_ways(self):
        self.assertEqual(grounds_rows(PLAN, ("endless", VALUES, ((0, 1), (-1, 3)))), ["way 0 -1/3"])
        self.assertEqual(grounds_rows(EMPTY, ("endless", (), ())), ["way"])


class Read(Asking):
    def both(self, plan, outcome, held):
        rows = grounds_rows(plan, outcome)
        ahead = list(rows)
        self.assertEqual(read_grounds(plan, rows), held)
        self.assertEqual(rows, ahead)

    def test_trees_and_ways(self):
        for tree in [LEAF, TORN, TREE, TREE[3], TREE[4]]:
            self.both(PLAN, ("best", VALUES, tree), tree)
            self.both(PLAN, ("none", tree), tree)
        self.both(PLAN, ("endless", VALUES, ((0, 1), (-1, 3))), ((0, 1), (-1, 3)))
        self.both(EMPTY, ("endless", (), ()), ())
        self.both(EMPTY, ("none", ("none", ())), ("none", ()))
        self.assertEqual(read_grounds(plan=PLAN, rows=TREE_ROWS), TREE)

    def test_labels_with_blanks(self):
        labels = ["", " ", "  ", "a b", "a b ", " a b", "split", "split x 3", "3", "floor 1/2", "none", "way", "x(a, b)", "-",
                  "a 7", "a\nb", "\n", "none 3"]
        plan = (tuple((label, True, whole(0), whole(9)) for label in labels), (("r", (), "=", whole(0)),), EMPTY[2])
        for number in range(len(labels)):
            other = (number + 5) % len(labels)
            tree = ("split", number, 3, ("split", other, -12, ("floor", (whole(1),)), ("none", ((2, 3),))), ("none", (whole(0),)))
            self.both(plan, ("best", (), tree), tree)

    def test_great_numbers(self):
        way = ((10 ** 3900 + 1, 10 ** 3900), (-(10 ** 3999), 1))
        self.both(PLAN, ("endless", VALUES, way), way)

    def test_what_is_solved(self):
        maker = Maker(21)
        for turn in range(120):
            plan = maker.plan(turn % 5, turn // 5 % 4, whole=0.7)
            outcome = solved(plan)
            self.both(plan, outcome, outcome[1] if outcome[0] == "none" else outcome[2])

    def test_very_deep_trees(self):
        tree = LEAF
        for k in range(1500):
            tree = ("split", k % 2, k, tree, TORN) if k % 3 else ("split", k % 2, k, TORN, tree)
        rows = grounds_rows(PLAN, ("none", tree))
        self.assertEqual(len(rows), 3001)
        read = read_grounds(PLAN, rows)
        self.assertEqual(grounds_rows(PLAN, ("none", read)), rows)
