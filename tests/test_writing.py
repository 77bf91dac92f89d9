"""Promise 12: statements written, and read to the same."""

from planwell.errors import BadText
from planwell.reading import read, told
from planwell.terms import Entry, Negative, Number
from planwell.writing import written
from tests.asking import Asking


class Written(Asking):
    def test_none(self):
        self.assertEqual(written([]), "")

    def test_each_kind(self):
        for text, rows in [
            ("set a:b.", "set a: b."),
            ("set  things :bread ,cake\n.", "set things: bread, cake."),
            ("table t : 6/4.", "table t: 3/2."),
            ("table t:- 3.", "table t: -3."),
            ("table t:-0.", "table t: 0."),
            ("table t over s:a 1,b -2/6.", "table t over s: a 1, b -1/3."),
            ("table need over things,days:bread mon 3,bread tue 5/2.",
             "table need over things, days: bread mon 3, bread tue 5/2."),
            ("unknown x .", "unknown x."),
            ("unknown x whole.", "unknown x whole."),
            ("unknown x from - 5 / 2.", "unknown x from -5/2."),
            ("unknown x to 3.", "unknown x to 3."),
            ("unknown x from 0 to 0.", "unknown x from 0 to 0."),
            ("unknown x over s,z whole from 0 to 9.", "unknown x over s, z whole from 0 to 9."),
            ("unknown x over s to 9.", "unknown x over s to 9."),
            ("row r:x<=3.", "row r: x <= 3."),
            ("row r:x>=3.", "row r: x >= 3."),
            ("row r:x=3.", "row r: x = 3."),
            ("row flour each d in days : need(d) <= 2 * bake(d).",
             "row flour each d in days: need(d) <= (2 * bake(d))."),
            ("row r each a in b,c in d:x(a,c)-1=-x.", "row r each a in b, c in d: (x(a, c) - 1) = (- x)."),
            ("least x.", "least x."),
            ("most sum(a in s,x(a)+1)*4/6.", "most (sum(a in s, (x(a) + 1)) * 2/3)."),
        ]:
            self.assertEqual(written(read(text)), rows)
            self.assertEqual(told(read(rows)), told(read(text)))
            self.assertEqual(written(read(rows)), rows)

    def test_one_to_a_row(self):
        self.assertEqual(
            written(read("most x.set b:c. set a:b.")), "most x.\nset b: c.\nset a: b.",
        )
        self.assertEqual(written(statements=read("unknown x.")), "unknown x.")

    def test_numbers_below_nought_made_by_hand(self):
        statements = [("row", "r", (), Number((-3, 2)), "=", Negative(Entry("x", ("a",))))]
        self.assertEqual(written(statements), "row r: (- 3/2) = (- x(a)).")
        self.assertEqual(told(read(written(statements)))[0][3], ("negative", ("number", (3, 2))))

    def test_what_is_written_may_be_no_text_any_more(self):
        # 59 brackets stand open in it, so it is none by 8: it is written all the same.
        statements = read("least " + " + ".join(["x"] * 60) + ".")
        self.assertEqual(written(statements), "least " + "(" * 59 + "x" + " + x)" * 59 + ".")
        self.assert_refused(BadText, read, written(statements))

    def test_statements_stay(self):
        statements = read("set a: b. row r each k in a: x(k) + 1 = 2. least x(b).")
        ahead = told(statements)
        rows = written(statements)
        self.assertEqual(told(statements), ahead)
        self.assertEqual(written(statements), rows)
        statements.clear()
        self.assertEqual(written(read(rows)), rows)
