"""Promises 5, 6, 8 and 12: statements, as they are read and told."""

from planwell.errors import BadText
from planwell.reading import read, told
from planwell.terms import Term
from tests.asking import Asking

KEPT = "set table unknown over whole from to row each in sum least most".split()
X = ("entry", "x", ())
EIGHT = ["a", "b", "c", "d", "e", "f", "g", "h"]
ALL = """set days: mon, tue. table k: 3. table t over days: mon 1, tue 2. unknown x over days whole from 0 to 9.
row r each d in days: x(d) >= t(d). least sum(d in days, x(d)) - k."""


def one(text):
    statements = told(read(text))
    assert len(statements) == 1, text
    return statements[0]


class Statements(Asking):
    def test_none(self):
        for text in ["", " ", "\n", "  \n \n"]:
            self.assertEqual(read(text), [])
        self.assertEqual(told([]), [])

    def test_sets(self):
        self.assertEqual(one("set a : b."), ("set", "a", ("b",)))
        self.assertEqual(one("set a: b, c."), ("set", "a", ("b", "c")))
        self.assertEqual(one("set s: " + ",".join(EIGHT) + "."), ("set", "s", tuple(EIGHT)))
        # That a name stands twice is not seen here.
        self.assertEqual(one("set a: a, a."), ("set", "a", ("a", "a")))

    def test_tables(self):
        self.assertEqual(one("table t: 3."), ("table", "t", (), (((), (3, 1)),)))
        self.assertEqual(one("table t: -6/4."), ("table", "t", (), (((), (-3, 2)),)))
        self.assertEqual(one("table t over s: a 1."), ("table", "t", ("s",), ((("a",), (1, 1)),)))
        self.assertEqual(
            one("table t over s : a 1, b - 2, a 0."),
            ("table", "t", ("s",), ((("a",), (1, 1)), (("b",), (-2, 1)), (("a",), (0, 1)))),
        )
        self.assertEqual(
            one("table need over things, days : bread mon 3, bread tue 5/2."),
            ("table", "need", ("things", "days"), ((("bread", "mon"), (3, 1)), (("bread", "tue"), (5, 2)))),
        )
        many = ", ".join(["a b 1"] * 200)
        self.assertEqual(len(one(f"table t over s, s: {many}.")[3]), 200)

    def test_unknowns(self):
        for text, told_as in [
            ("x", ((), False, None, None)), ("x whole", ((), True, None, None)),
            ("x from 1", ((), False, (1, 1), None)), ("x to 1", ((), False, None, (1, 1))),
            ("x from -1/2 to 6/4", ((), False, (-1, 2), (3, 2))), ("x whole from 2", ((), True, (2, 1), None)),
            ("x whole to 0", ((), True, None, (0, 1))), ("x whole from 5 to 1", ((), True, (5, 1), (1, 1))),
            ("x over s", (("s",), False, None, None)), ("x over s, z", (("s", "z"), False, None, None)),
            ("x over s, s whole from 0 to 9", (("s", "s"), True, (0, 1), (9, 1))),
            ("x over s to 3", (("s",), False, None, (3, 1))),
        ]:
            statement = one(f"unknown {text}.")
            self.assertEqual(statement, ("unknown", "x") + told_as)
            self.assertIsInstance(statement[3], bool)

    def test_rows(self):
        for sign in ["<=", ">=", "="]:
            self.assertEqual(one(f"row r: x {sign} 2."), ("row", "r", (), X, sign, ("number", (2, 1))))
        self.assertEqual(
            one("row r each d in days: x(d) <= 0."),
            ("row", "r", (("d", "days"),), ("entry", "x", ("d",)), "<=", ("number", (0, 1))),
        )
        self.assertEqual(
            one("row r each d in days, t in days: x + x = x * x.")[2:],
            ((("d", "days"), ("t", "days")), ("plus", X, X), "=", ("times", X, X)),
        )

    def test_goals(self):
        self.assertEqual(one("least x."), ("goal", "least", X))
        self.assertEqual(one("most - x."), ("goal", "most", ("negative", X)))

    def test_several_in_order(self):
        self.assertEqual([statement[:2] for statement in told(read("most x.least x.set b:c.\nset a:b . row x:x=x."))], [
            ("goal", "most"), ("goal", "least"), ("set", "b"), ("set", "a"), ("row", "x"),
        ])

    def test_blanks_mean_nothing_else(self):
        self.assertEqual(told(read(ALL.replace(" ", "\n  "))), told(read(ALL)))
        self.assertEqual(told(read(ALL.replace(": ", ":").replace(", ", ","))), told(read(ALL)))


class Values(Asking):
    def test_each_form(self):
        for text, value in [
            ("0", (0, 1)), ("-0", (0, 1)), ("7", (7, 1)), ("- 7", (-7, 1)), ("5/2", (5, 2)), ("- 5 / 2", (-5, 2)),
            ("6/4", (3, 2)), ("-8/4", (-2, 1)), ("0/5", (0, 1)), ("-0/3", (0, 1)), ("999999999/999999998", (999999999, 999999998)),
        ]:
            self.assertEqual(one(f"table t: {text}.")[3], (((), value),))
            self.assertEqual(one(f"table t over s: a {text}.")[3], ((("a",), value),))
            self.assertEqual(one(f"unknown x from {text}.")[4], value)
            self.assertEqual(one(f"unknown x to {text}.")[5], value)

    def test_no_values(self):
        for text in [
            "", "-", "- -3", "--3", "+3", "a", "3/", "/3", "3/0", "-3/0", "0/0", "3/-2", "3/a", "(3)", "3 + 1", "3 * 2",
            "1/2/3", "01", "1234567890", "1/1234567890", "3 4", "1/00",
        ]:
            for around in ["table t: {}.", "table t over s: a {}.", "unknown x from {}.", "unknown x to {}."]:
                self.assert_refused(BadText, read, around.replace("{}", text))


class NoTexts(Asking):
    def test_a_statement_without_its_point(self):
        for text in ALL.replace("\n", " ").split(".")[:-1]:
            self.assertEqual(len(read(text + ".")), 1)
            self.assert_refused(BadText, read, text)
            self.assert_refused(BadText, read, text + " " + text + ".")
            self.assert_refused(BadText, read, text + "..")
        self.assert_refused(BadText, read, ".")
        self.assert_refused(BadText, read, ALL[:-1])

    def test_what_is_no_statement(self):
        for text in [
            "a", "a.", "3.", "over s.", "whole.", "from 3.", "to 3.", "each d in s.", "in.", "sum.", "sum(k in s, 1).",
            ": a.", "x <= 3.", "goal x.", "set", "table", "unknown", "row", "least", "most", "set.", "table.", "unknown.",
            "row.", "least.", "most.",
        ]:
            self.assert_refused(BadText, read, text)

    def test_wrong_sets(self):
        nine = ", ".join(EIGHT + ["i"])
        for text in [
            "set a.", "set a:.", "set a b.", "set a: b c.", "set a: b,.", "set a:, b.", "set a: b,, c.", "set a: 3.",
            "set a: b, 3.", "set 3: b.", "set : b.", "set a, b: c.", f"set s: {nine}.", "set a = b.", "set a: (b).",
        ]:
            self.assert_refused(BadText, read, text)

    def test_wrong_tables(self):
        for text in [
            "table t.", "table t:.", "table t 3.", "table : 3.", "table t: a 3.", "table t: 3, 4.", "table t over : 3.",
            "table t over s: 3.", "table t over s: a.", "table t over s: a b 3.", "table t over s: a 3,.",
            "table t over s: a 3 b 4.", "table t over s, z: a 3.", "table t over s, z: a b c 3.", "table t over s:.",
            "table t over s, z, y: a b c 3.", "table t over s z: a b 3.", "table t over s,: a 3.", "table t over s a 3.",
            "table t over s, z: a, b 3.", "table t over s, z: (a, b) 3.", "table t over s: a 3, 4.", "table t whole: 3.",
        ]:
            self.assert_refused(BadText, read, text)

    def test_wrong_unknowns(self):
        for text in [
            "unknown 3.", "unknown x, y.", "unknown x y.", "unknown x: 3.", "unknown x over.", "unknown x over s, z, y.",
            "unknown x over s z.", "unknown x from.", "unknown x to.", "unknown x whole whole.", "unknown x to 3 from 1.",
            "unknown x from 1 whole.", "unknown x to 1 whole.", "unknown x whole over s.", "unknown x from 1 over s.",
            "unknown x from 1 from 1.", "unknown x to 1 to 1.", "unknown x from 1, to 3.", "unknown x(s).",
            "unknown x from y.", "unknown x from 1 to.",
        ]:
            self.assert_refused(BadText, read, text)

    def test_wrong_rows(self):
        for text in [
            "row r.", "row r x = 1.", "row r:.", "row r: x.", "row r: x =.", "row r: = x.", "row r: x < 1.",
            "row r: x > 1.", "row r: x == 1.", "row r: x <= y <= z.", "row r: x = y = z.", "row r each: x = 1.",
            "row r each d: x = 1.", "row r each d in: x = 1.", "row r each in s: x = 1.", "row r each d s: x = 1.",
            "row r each d in s, : x = 1.", "row r each d in s e in s: x = 1.", "row r each d in s x = 1.",
            "row r each d in s, e in s, f in s: x = 1.", "row r each d, e in s: x = 1.", "row r over s: x = 1.",
            "row : x = 1.", "row 3: x = 1.", "row r each d in s, e: x = 1.", "row r: x + = 1.", "row r: x : 1.",
            "row r: x => 1.", "row r: x = 1 2.",
        ]:
            self.assert_refused(BadText, read, text)

    def test_wrong_goals(self):
        for text in ["least: x.", "least x y.", "least x = 1.", "least x, y.", "most least x.", "least +.", "least x +."]:
            self.assert_refused(BadText, read, text)

    def test_kept_words_where_a_name_is_wanted(self):
        for word in KEPT:
            for text in [
                "set {}: a.", "set a: {}.", "set a: b, {}.", "table {}: 3.", "table {} over s: a 3.",
                "table t over {}: a 3.", "table t over s, {}: a b 3.", "table t over s: {} 3.", "table t over s: a 1, {} 3.",
                "table t over s, z: {} b 3.", "table t over s, z: a {} 3.", "unknown {}.", "unknown x over {}.",
                "unknown x over s, {}.", "row {}: x = 1.", "row r each {} in s: x = 1.", "row r each d in {}: x = 1.",
                "row r each d in s, {} in s: x = 1.", "row r each d in s, e in {}: x = 1.", "row r: {} = 1.",
                "row r: x = {}.", "least {}.", "most {}(a).", "least x({}).", "least x(a, {}).",
                "least sum({} in s, 1).", "least sum(k in {}, 1).",
            ]:
                self.assert_refused(BadText, read, text.replace("{}", word))

    def test_words_that_only_begin_so_are_names(self):
        for word in KEPT:
            if len(word) < 8:
                name = word + "s"
                self.assertEqual(one(f"set {name}: {name}."), ("set", name, (name,)))

    def test_too_long_words(self):
        self.assertEqual(one("unknown abcdefgh.")[1], "abcdefgh")
        self.assert_refused(BadText, read, "unknown abcdefghi.")
        self.assert_refused(BadText, read, "table t: 1000000000.")
        self.assert_refused(BadText, read, "table t: 007.")

    def test_signs_that_no_text_has(self):
        for sign in ["%", "\t", "\r", "\u00e9", "\x7f", "A", "_", "#", "\"", "<", ";", "~"]:
            self.assert_refused(BadText, read, ALL + sign)
            self.assert_refused(BadText, read, sign)

    def test_six_thousand_signs_and_one_more(self):
        text = ALL + " " * (6000 - len(ALL))
        self.assertEqual(told(read(text)), told(read(ALL)))
        self.assert_refused(BadText, read, text + " ")
        self.assert_refused(BadText, read, text + "\n")
        self.assertEqual(len(read("least a." * 750)), 750)
        self.assert_refused(BadText, read, "least a." * 751)

    def test_things_that_are_no_texts(self):
        for thing in [None, 3, True, b"set a: b.", ["set a: b."], ("least x.",), {}, 1.5, object(), {"a": 1}, [], ()]:
            self.assert_refused(BadText, read, thing)

    def test_depth_and_open_things_in_statements(self):
        fine = " + ".join(["x"] * 60)
        deep = " + ".join(["x"] * 61)
        opened = "(" * 30 + "x" + ")" * 30
        wide = "(" * 31 + "x" + ")" * 31
        sums = "sum(a in s, sum(b in s, sum(c in s, sum(d in s, 1))))"
        for around in ["row r: {} = 1.", "row r: 1 = {}.", "least {}.", "most {}."]:
            for good in [fine, opened, sums[12:-1]]:
                self.assertEqual(len(read(around.replace("{}", good))), 1)
            for bad in [deep, wide, sums, "-" * 31 + "x", "(" * 30 + "x(a)" + ")" * 30]:
                self.assert_refused(BadText, read, around.replace("{}", bad))
        # Each side of a row counts for itself.
        self.assertEqual(len(read(f"row r: {fine} = {fine}. row q: {opened} = {opened}.")), 2)


class ToldStatements(Asking):
    def test_terms_are_terms_as_read_and_tuples_as_told(self):
        statements = read(ALL)
        self.assertIsInstance(statements, list)
        self.assertIsInstance(statements[4][3], Term)
        self.assertIsInstance(statements[4][5], Term)
        self.assertIsInstance(statements[5][2], Term)
        self.assertEqual(told(statements)[4][3], statements[4][3].told())
        self.assertEqual(told(statements)[:4], statements[:4])
        for statement in statements + told(statements):
            self.assertIsInstance(statement, tuple)

    def test_lists_are_the_askers_own(self):
        statements = read(ALL)
        ahead = list(statements)
        first = told(statements)
        kept = list(first)
        first.clear()
        self.assertEqual(statements, ahead)
        self.assertEqual(told(statements), kept)
        read(ALL).clear()
        self.assertEqual(told(read(ALL)), kept)
        later = told(statements)
        statements.clear()
        self.assertEqual(later, kept)
