"""Promises 13 to 16: statements laid out as a plan."""

import itertools
import random
from fractions import Fraction

from planwell.errors import BadEnds, BadGoal, BadName, BadTable, BadText, NotLinear, TooMany
from planwell.laying import label, laid_out
from planwell.reading import read, told
from tests.asking import Asking

SETS = "set days: mon, tue. set one: mon. "
WIDE = "set s: a, b, c, d, e, f. set q: g, h, i, j. "


def plan_of(text):
    return laid_out(read(text))


def rows_of(text):
    return plan_of(text + " least 0.")[1]


class Plans(Asking):
    def test_an_ordinary_plan(self):
        self.assertEqual(
            plan_of("""set things: bread, cake. table flour over things: bread 2, cake 3/2. table have: 40.
                unknown bake over things whole from 0 to 20. unknown buy from 0.
                row enough: sum(t in things, flour(t) * bake(t)) <= have + buy.
                row some each t in things: bake(t) >= 1.
                most 3 * bake(bread) + 4 * bake(cake) - buy - 7."""),
            (
                (("bake(bread)", True, (0, 1), (20, 1)), ("bake(cake)", True, (0, 1), (20, 1)),
                 ("buy", False, (0, 1), None)),
                (("enough", ((0, (2, 1)), (1, (3, 2)), (2, (-1, 1))), "<=", (40, 1)),
                 ("some(bread)", ((0, (1, 1)),), ">=", (1, 1)), ("some(cake)", ((1, (1, 1)),), ">=", (1, 1))),
                ("most", ((0, (3, 1)), (1, (4, 1)), (2, (-1, 1))), (-7, 1)),
            ),
        )

    def test_the_least_plan(self):
        self.assertEqual(plan_of("least 0."), ((), (), ("least", (), (0, 1))))
        self.assertEqual(laid_out(statements=read("most -1/2.")), ((), (), ("most", (), (-1, 2))))

    def test_kinds(self):
        unknowns, rows, goal = plan_of("unknown x. row r: x = 1. least x.")
        for thing in [unknowns, unknowns[0], rows, rows[0], rows[0][1], goal, goal[1]]:
            self.assertIsInstance(thing, tuple)

    def test_unknowns_over_none_one_and_two_sets(self):
        unknowns = plan_of(SETS + """unknown z over days, one to 1. unknown a. unknown b over one, days whole from 0 to 2.
            unknown c over days, days. unknown d over days from -1/2. least 0.""")[0]
        self.assertEqual(unknowns, (
            ("z(mon, mon)", False, None, (1, 1)), ("z(tue, mon)", False, None, (1, 1)), ("a", False, None, None),
            ("b(mon, mon)", True, (0, 1), (2, 1)), ("b(mon, tue)", True, (0, 1), (2, 1)),
            ("c(mon, mon)", False, None, None), ("c(mon, tue)", False, None, None), ("c(tue, mon)", False, None, None),
            ("c(tue, tue)", False, None, None), ("d(mon)", False, (-1, 2), None), ("d(tue)", False, (-1, 2), None),
        ))

    def test_rows_over_none_one_and_two_sets(self):
        rows = rows_of(SETS + """unknown x over days, days. unknown y. row b each p in one, q in days: x(q, p) <= 1.
            row a: y = 2. row c each p in days: x(p, p) >= 3. row d each p in days, q in days: x(q, p) = 4.""")
        self.assertEqual([(name, pairs[0][0], mark, bound) for name, pairs, mark, bound in rows], [
            ("b(mon, mon)", 0, "<=", (1, 1)), ("b(mon, tue)", 2, "<=", (1, 1)), ("a", 4, "=", (2, 1)),
            ("c(mon)", 0, ">=", (3, 1)), ("c(tue)", 3, ">=", (3, 1)),
            ("d(mon, mon)", 0, "=", (4, 1)), ("d(mon, tue)", 2, "=", (4, 1)), ("d(tue, mon)", 1, "=", (4, 1)),
            ("d(tue, tue)", 3, "=", (4, 1)),
        ])

    def test_left_less_right(self):
        self.assertEqual(rows_of("unknown x. unknown y. row r: 2 * x + 3 - y <= 5 * y - x - 1/2."), (
            ("r", ((0, (3, 1)), (1, (-6, 1))), "<=", (-7, 2)),
        ))
        self.assertEqual(rows_of("unknown x. row r: 1 >= x."), (("r", ((0, (-1, 1)),), ">=", (-1, 1)),))

    def test_rows_without_pairs(self):
        self.assertEqual(rows_of("unknown x. row r: x + 1 = x. row q: 2 <= 3."), (
            ("r", (), "=", (-1, 1)), ("q", (), "<=", (1, 1)),
        ))

    def test_the_goal(self):
        head = "unknown x. unknown y. "
        self.assertEqual(plan_of(head + "most 2 * y - 3 + x * 1/2.")[2], ("most", ((0, (1, 2)), (1, (2, 1))), (-3, 1)))
        self.assertEqual(plan_of(head + "least y - y + 4.")[2], ("least", (), (4, 1)))
        self.assertEqual(plan_of("unknown x. least x. row r: x = 1.")[1][0][0], "r")

    def test_label(self):
        self.assertEqual(label("bake", ()), "bake")
        self.assertEqual(label("bake", ("bread",)), "bake(bread)")
        self.assertEqual(label(name="bake", keys=("bread", "mon")), "bake(bread, mon)")

    def test_statements_stay(self):
        statements = read(SETS + "unknown x over days. row r each d in days: x(d) = sum(e in days, x(e)). least x(mon).")
        ahead = told(statements)
        plan = laid_out(statements)
        self.assertEqual(laid_out(statements), plan)
        self.assertEqual(told(statements), ahead)
        statements.clear()
        self.assertEqual(len(plan[1]), 2)


class Sums(Asking):
    def test_sums_within_sums(self):
        head = SETS + "table t over days, days: mon mon 1, mon tue 2, tue mon 3, tue tue 4. unknown x over days. "
        self.assertEqual(
            rows_of(head + "row r: sum(a in days, sum(b in days, t(a, b) * x(b))) = sum(a in days, 1)."),
            (("r", ((0, (4, 1)), (1, (6, 1))), "=", (2, 1)),),
        )
        self.assertEqual(
            rows_of(head + "row r each c in days: sum(a in days, t(c, a) * x(a)) + t(c, c) = 0."),
            (("r(mon)", ((0, (1, 1)), (1, (2, 1))), "=", (-1, 1)), ("r(tue)", ((0, (3, 1)), (1, (4, 1))), "=", (-4, 1))),
        )

    def test_a_member_in_both_keys(self):
        head = SETS + "table t over days, days: mon mon 1, mon tue 2, tue mon 3, tue tue 4. unknown x. "
        self.assertEqual(rows_of(head + "row r: sum(a in days, t(a, a)) * x = 0.")[0][1], ((0, (5, 1)),))
        self.assertEqual(
            [row[1] for row in rows_of(head + "row r each a in days: t(a, a) * x = 0.")], [((0, (1, 1)),), ((0, (4, 1)),)],
        )

    def test_three_sums(self):
        self.assertEqual(
            rows_of(SETS + "row r: sum(a in days, sum(b in days, sum(c in days, 1/8))) = 1.")[0][3], (0, 1),
        )


class Refused(Asking):
    def test_no_goal(self):
        self.assert_refused(BadGoal, laid_out, [])
        self.assert_refused(BadGoal, plan_of, "unknown x. row r: x = 1.")
        # Behind all: another fault is told first.
        self.assert_refused(BadName, plan_of, "unknown x. row r: y = 1.")
        self.assert_refused(TooMany, plan_of, WIDE + "unknown x over s, s. unknown y over s.")

    def test_a_second_goal(self):
        self.assert_refused(BadGoal, plan_of, "unknown x. least x. most x.")
        self.assert_refused(BadGoal, plan_of, "unknown x. least x. least x.")
        self.assert_refused(BadGoal, plan_of, "unknown x. least x. least y.")
        self.assert_refused(BadGoal, plan_of, "unknown x. least x. least x * x.")
        self.assert_refused(BadGoal, plan_of, "unknown x. least x. least sum(x in y, 1).")

    def test_the_first_wrong_statement(self):
        wrong = [
            (BadName, "set x: y."), (BadTable, "table p over days: mon 1."), (BadEnds, "unknown p whole."),
            (NotLinear, "row p: x * x = 1."), (BadGoal, "least 2."), (BadName, "row p: q = 1."),
        ]
        for kind, text in wrong:
            for other, behind in wrong:
                self.assert_refused(kind, plan_of, SETS + "unknown x. least x. " + text + behind)

    def test_not_linear(self):
        head = SETS + """table t over days: mon 0, tue 1. table nil: 0. unknown x. unknown y over days. unknown w over days,
            days. """
        for term in [
            "x * x", "x * y(mon)", "(x + 1) * (x - 1)", "2 * -(x * x)", "x * (y(mon) + 0)", "nil * (x * x)",
            "sum(d in days, t(d) * x) * x", "sum(d in days, t(d) * x * y(d))", "x * sum(d in days, y(d))", "1 + x * x * nil",
            "sum(d in days, sum(e in days, t(d) * t(e) * x * w(d, e)))",
        ]:
            self.assert_refused(NotLinear, plan_of, head + f"least {term}.")
            self.assert_refused(NotLinear, plan_of, head + f"most {term}.")
            self.assert_refused(NotLinear, plan_of, head + f"row r: {term} = 1. least 0.")
            self.assert_refused(NotLinear, plan_of, head + f"row r: 1 = {term}. least 0.")
        # The second row of the two is the wrong one.
        self.assert_refused(NotLinear, plan_of, head + "row r each d in days: t(d) * x * x = 1. least 0.")
        self.assertEqual(len(plan_of(head + "row r each d in one: t(d) * x * x = 1. least 0.")[1]), 1)

    def test_linear_all_the_same(self):
        head = SETS + "table t over days: mon 0, tue 1. table nil: 0. unknown x. unknown y. "
        for term, pairs in [
            ("(x - x) * y", ()), ("x * (y - y)", ()), ("nil * x * y", ()), ("x * nil * x", ()), ("x * (nil * y)", ()),
            ("(x - x + 2) * y", ((1, (2, 1)),)), ("t(mon) * x * x", ()), ("sum(d in one, t(d) * x) * y", ()),
            ("sum(d in days, t(d) - 1/2) * x * x", ()), ("0 * x * x + y", ((1, (1, 1)),)),
        ]:
            self.assertEqual(plan_of(head + f"least {term}.")[2][1], pairs)
            self.assertEqual(rows_of(head + f"row r: {term} = 0.")[0][1], pairs)

    def test_names_ahead_of_not_linear(self):
        head = "unknown x. "
        self.assert_refused(BadName, plan_of, head + "row r: x * x = y. least 0.")
        self.assert_refused(BadName, plan_of, head + "row x: x * x = 1. least 0.")
        self.assert_refused(BadName, plan_of, head + "least x * x + y.")
        self.assert_refused(BadName, plan_of, head + "least x * x + sum(a in b, 1).")
        # Of two statements the first one.
        self.assert_refused(NotLinear, plan_of, head + "row r: x * x = 1. row r: y = 1. least 0.")

    def test_forty_rows_and_one_more(self):
        forty = WIDE + "unknown x. row r each p in s, o in s: x = 1. row p each k in q: x = 2. "
        self.assertEqual(len(rows_of(forty)), 40)
        self.assert_refused(TooMany, rows_of, forty + "row z: x = 1.")
        self.assert_refused(TooMany, rows_of, WIDE + "set y: k, l, m, n, o, p, r. row z each v in s, w in y: 1 = 1.")
        self.assert_refused(NotLinear, rows_of, forty + "row z: x * x = 1.")
        self.assert_refused(BadName, rows_of, forty + "row z: y = 1.")
        self.assert_refused(TooMany, rows_of, forty + "row z: 1 = 1. row w: y = 1.")
        self.assert_refused(
            NotLinear, rows_of, WIDE + "unknown x. set y: k, l, m, n, o, p, r. row z each v in s, w in y: x * x = 1.",
        )

    def test_forty_unknowns_and_one_more(self):
        forty = WIDE + "unknown x over s, s. unknown y over q. "
        self.assertEqual(len(plan_of(forty + "least 0.")[0]), 40)
        self.assert_refused(TooMany, plan_of, forty + "unknown z. least 0.")
        self.assert_refused(BadEnds, plan_of, forty + "unknown z whole. least 0.")

    def test_ends_a_hundred_apart_and_one_more(self):
        self.assertEqual(plan_of("unknown x whole from -3 to 97. least x.")[0][0][3], (97, 1))
        self.assert_refused(BadEnds, plan_of, "unknown x whole from -3 to 98. least x.")
        self.assertEqual(plan_of("unknown x from -3 to 98. least x.")[0][0][3], (98, 1))

    def test_names_are_told_ahead(self):
        for text in [
            "row r: x = 1. unknown x. least 0.", "table t over s: a 1. set s: a. least 0.", "least x. unknown x.",
            "unknown x over s. set s: a. least 0.", "row r: t = 1. table t: 1. least 0.",
            "unknown x. set s: x. least 0.", "set s: x. unknown x. least 0.", "set s: a. set a: b. least 0.",
            "row r: 1 = 1. row r: 1 = 1. least 0.", "row r: 1 = 1. set s: r. least 0.",
            "row r: 1 = 1. table r: 1. least 0.", "set s: a. row a: 1 = 1. least 0.",
        ]:
            self.assert_refused(BadName, plan_of, text)
        # A binder is told nowhere behind its statement.
        self.assertEqual(
            len(plan_of("set s: a. row r each d in s: 1 = 1. unknown d. row q each e in s: d = 1. least d.")[1]), 2,
        )

    def test_read_refuses_first(self):
        self.assert_refused(BadText, plan_of, "least x")


TABLES = {
    ("k", ()): Fraction(3), ("nil", ()): Fraction(0), ("t", ("mon",)): Fraction(-2), ("t", ("tue",)): Fraction(1, 2),
    ("m", ("mon", "mon")): Fraction(5), ("m", ("tue", "mon")): Fraction(-1, 3),
}
GROUPS = {"days": ("mon", "tue"), "one": ("mon",)}
UNKNOWNS = [("x", ()), ("y", ("mon",)), ("y", ("tue",)), ("z", ("mon", "mon")), ("z", ("tue", "mon"))]
HEAD = SETS + """table k: 3. table nil: 0. table t over days: mon -2, tue 1/2. table m over days, one: mon mon 5, tue mon
    -1/3. unknown x. unknown y over days. unknown z over days, one. """


def come_to(term, bound, values):
    """What a told term comes to, by the test's own reckoning: bound are the binders' members, values the unknowns'."""
    kind = term[0]
    if kind == "number":
        return Fraction(term[1][0], term[1][1])
    if kind == "entry":
        keys = tuple(bound.get(key, key) for key in term[2])
        return TABLES[(term[1], keys)] if (term[1], keys) in TABLES else values[UNKNOWNS.index((term[1], keys))]
    if kind == "sum":
        return sum(come_to(term[3], {**bound, term[1]: member}, values) for member in GROUPS[term[2]])
    parts = [come_to(part, bound, values) for part in term[1:]]
    if kind == "negative":
        return -parts[0]
    return {"plus": parts[0] + parts[1], "minus": parts[0] - parts[1], "times": parts[0] * parts[1]}[kind]


class Terms:
    """Texts of terms by chance, but the same ones each time."""

    def __init__(self, seed):
        self.chance = random.Random(seed)

    def key(self, group, binders):
        return self.chance.choice(list(GROUPS[group]) + [name for name, held in binders if held in ("one", group)])

    def text(self, depth, binders):
        pick = self.chance.choice(["number", "table", "unknown", "unknown"] + ["mark", "mark", "minus", "sum"] * (depth > 0))
        if pick == "number":
            return self.chance.choice(["0", "1", "7/2", "3"])
        if pick == "table":
            day = self.key("days", binders)
            return self.chance.choice(["k", "nil", f"t({day})", f"m({day}, {self.key('one', binders)})"])
        if pick == "unknown":
            day = self.key("days", binders)
            return self.chance.choice(["x", f"y({day})", f"z({day}, {self.key('one', binders)})"])
        if pick == "minus":
            return f"- {self.text(depth - 1, binders)}"
        if pick == "sum" and len(binders) < 4:
            name = "abcde"[len(binders)]
            group = self.chance.choice(["days", "one"])
            return f"sum({name} in {group}, {self.text(depth - 1, binders + [(name, group)])})"
        mark = self.chance.choice("+-*")
        return f"({self.text(depth - 1, binders)} {mark} {self.text(depth - 1, binders)})"


class Reckoned(Asking):
    def test_rows_come_to_what_their_terms_come_to(self):
        terms = Terms(5)
        laid = 0
        for turn in range(400):
            binders = [("a", "days"), ("b", "one")][:turn % 3]
            each = " each " + ", ".join(f"{name} in {group}" for name, group in binders) if binders else ""
            text = f"{HEAD} row r{each}: {terms.text(3, binders)} <= {terms.text(2, binders)}. least {terms.text(2, [])}."
            try:
                plan = plan_of(text)
            except NotLinear:
                continue
            laid += 1
            self.check(plan, told(read(text)), binders, [Fraction(terms.chance.randint(-9, 9), 7) for unknown in UNKNOWNS])
        self.assertGreater(laid, 150)

    def check(self, plan, statements, binders, values):
        kind, name, held, left, sign, right = statements[-2]
        members = list(itertools.product(*[GROUPS[group] for binder, group in binders]))
        self.assertEqual([row[0] for row in plan[1]], [label("r", keys) for keys in members])
        for row, keys in zip(plan[1], members):
            bound = {binder: key for (binder, group), key in zip(binders, keys)}
            gap = come_to(left, bound, values) - come_to(right, bound, values)
            self.assertEqual(self.at(row[1], values) - Fraction(row[3][0], row[3][1]), gap)
        self.assertEqual(
            self.at(plan[2][1], values) + Fraction(plan[2][2][0], plan[2][2][1]), come_to(statements[-1][2], {}, values),
        )

    def at(self, pairs, values):
        return sum((Fraction(part[0], part[1]) * values[number] for number, part in pairs), Fraction(0))
