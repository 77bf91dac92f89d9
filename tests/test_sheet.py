"""Promise 26: a sheet's lines, right and wrong."""

from planwell.branches import solved
from planwell.errors import BadGoal, BadName, BadText, NotLinear
from planwell.laying import laid_out
from planwell.reading import read
from planwell.sheet import Sheet
from planwell.telling import answer_rows, grounds_rows, read_grounds
from tests.asking import Asking
from tests.grounds import is_answer

TEXT = """set things: bread, cake. set days: mon, tue.
table flour over things: bread 2, cake 3. table have: 40. table nil: 0.
table need over things, days: bread mon 1, bread tue 2, cake mon 3, cake tue 4.
unknown bake over things whole from 0 to 12. unknown buy from 0 to 10. unknown other over things, days from 0 to 1.
row enough: sum(t in things, flour(t) * bake(t)) <= have + buy + nil * buy * buy.
row some each t in things: bake(t) >= need(t, mon). row both each t in things, d in days: other(t, d) <= 1/2.
row odd: 2 * bake(bread) - bake(cake) <= 9.
most 3 * bake(bread) + 5 * bake(cake) - 4 * buy + nil * buy + 7."""
LABELS = [
    "bake(bread)", "bake(cake)", "buy", "other(bread, mon)", "other(bread, tue)", "other(cake, mon)", "other(cake, tue)",
]
ASKED = ["answer", "grounds", "labels", "rows"]


def all_told(sheet):
    return [sheet.say(line) for line in ASKED]


class Sheets(Asking):
    def says(self, sheet, line, told):
        self.assertEqual(sheet.say(line), told, line)

    def stays(self, sheet, line, told):
        # What is refused changes nothing.
        ahead = all_told(sheet)
        self.says(sheet, line, told)
        self.assertEqual(all_told(sheet), ahead, line)

    def like(self, sheet, text):
        self.assertEqual(all_told(sheet), all_told(Sheet(text)))


class Asked(Sheets):
    def test_answer_grounds_labels_and_rows(self):
        sheet = Sheet(TEXT)
        plan = laid_out(read(TEXT))
        outcome = solved(plan)
        self.assertTrue(is_answer(plan, outcome))
        self.says(sheet, "labels", LABELS)
        self.says(sheet, "answer", answer_rows(plan, outcome))
        self.says(sheet, "grounds", grounds_rows(plan, outcome))
        self.assertEqual(read_grounds(plan, sheet.say("grounds")), outcome[2])

    def test_an_answer_by_hand(self):
        sheet = Sheet("unknown x whole from 0 to 9. unknown y from 0. row r: 2 * x + 0 * y <= 7 - 1/2. row q: y = x + 1/3."
                      " most x + y - 1.")
        self.says(sheet, "answer", ["best 16/3", "x = 3", "y = 10/3"])
        self.says(sheet, "rows", ["r: 6 <= 13/2", "q: 1/3 = 1/3"])
        self.says(sheet, "labels", ["x", "y"])

    def test_none(self):
        text = "unknown x from 0. row r: x <= -1. least x."
        sheet = Sheet(text)
        self.says(sheet, "answer", ["none"])
        self.says(sheet, "rows", ["no answer"])
        self.says(sheet, "labels", ["x"])
        plan = laid_out(read(text))
        self.says(sheet, "grounds", grounds_rows(plan, solved(plan)))

    def test_endless(self):
        sheet = Sheet("unknown x from 0. row r: x >= 1. most 2 * x.")
        answer = sheet.say("answer")
        self.assertEqual(answer[0], "endless")
        self.assertEqual(len(answer), 2)
        value = answer[1].partition(" = ")[2]
        self.says(sheet, "rows", [f"r: {value} >= 1"])
        self.assertEqual(sheet.say("grounds")[0][:4], "way ")

    def test_without_rows_and_without_unknowns(self):
        sheet = Sheet("most 5/2.")
        self.says(sheet, "answer", ["best 5/2"])
        self.says(sheet, "grounds", ["floor"])
        self.says(sheet, "labels", [])
        self.says(sheet, "rows", [])

    def test_lists_are_the_askers_own(self):
        sheet = Sheet(TEXT)
        ahead = [list(told) for told in all_told(sheet)]
        for line in ASKED:
            sheet.say(line).clear()
            sheet.say(line).append("more")
        self.assertEqual(all_told(sheet), ahead)
        told = all_told(sheet)
        sheet.say("fix buy = 1")
        sheet.say("drop enough")
        all_told(sheet)
        self.assertEqual(told, ahead)

    def test_blanks_as_you_like(self):
        sheet = Sheet(TEXT)
        for line in [" answer", "answer ", "\n answer\n", "   answer   "]:
            self.says(sheet, line, sheet.say("answer"))
        self.says(sheet, "  put\nneed(bread , mon)=2 / 4 ", [])
        self.says(sheet, "put need ( bread,tue ) = - 3", [])
        self.says(sheet, "put need(cake,mon)=-0", [])
        self.says(sheet, "fix other( cake ,tue )=1/2", [])
        self.says(sheet, " free   other (cake, tue)", [])
        self.says(sheet, "fix buy=3", [])
        self.says(sheet, "drop\nodd", [])
        self.like(sheet, TEXT.replace("bread mon 1", "bread mon 1/2").replace("bread tue 2", "bread tue -3").replace(
            "cake mon 3", "cake mon 0").replace("from 0 to 10", "from 3 to 3").replace(
            "row odd: 2 * bake(bread) - bake(cake) <= 9.", ""))


class Put(Sheets):
    def test_values(self):
        sheet = Sheet(TEXT)
        self.says(sheet, "put have = 7/2", [])
        self.like(sheet, TEXT.replace("have: 40", "have: 7/2"))
        self.says(sheet, "put flour(cake) = -1", [])
        self.like(sheet, TEXT.replace("have: 40", "have: 7/2").replace("cake 3.", "cake -1."))
        self.says(sheet, "put need(cake, mon) = 4", [])
        self.says(sheet, "put have = 41", [])
        self.like(sheet, TEXT.replace("have: 40", "have: 41").replace("cake 3.", "cake -1.").replace("cake mon 3", "cake mon 4"))
        self.says(sheet, "put have = 40", [])
        self.says(sheet, "put flour(cake) = 3", [])
        self.says(sheet, "put need(cake, mon) = 3", [])
        self.like(sheet, TEXT)

    def test_names_that_are_none(self):
        sheet = Sheet(TEXT)
        for line in [
            "put other = 3", "put buy = 3", "put nope = 3", "put enough = 3", "put things = 3", "put bread = 3",
            "put have(bread) = 3", "put flour = 3", "put flour(bread, mon) = 3", "put flour(mon) = 3", "put flour(nope) = 3",
            "put need(bread) = 3", "put need = 3", "put need(mon, bread) = 3", "put need(bread, nope) = 3",
            "put need(bread, bread) = 3", "put bake(bread) = 3", "put flour(flour) = 1", "put t(bread) = 3", "put put = 3",
        ]:
            self.stays(sheet, line, ["no such name"])

    def test_not_linear(self):
        sheet = Sheet(TEXT)
        self.stays(sheet, "put nil = 1", ["not linear"])
        self.stays(sheet, "put nil = -1/9", ["not linear"])
        self.says(sheet, "drop enough", [])
        self.says(sheet, "put nil = 1", [])
        without = TEXT.replace("row enough: sum(t in things, flour(t) * bake(t)) <= have + buy + nil * buy * buy.", "")
        self.like(sheet, without.replace("nil: 0", "nil: 1"))
        self.stays(sheet, "keep enough", ["not linear"])
        self.says(sheet, "put nil = 0", [])
        self.like(sheet, without)
        self.says(sheet, "keep enough", [])
        self.like(sheet, TEXT)
        self.stays(sheet, "put nil = 1", ["not linear"])

    def test_not_linear_in_the_goal(self):
        sheet = Sheet("table t: 0. unknown x from 0 to 1. least t * x * x + x.")
        self.stays(sheet, "put t = 1", ["not linear"])
        self.says(sheet, "put t = 0", [])


class DropAndKeep(Sheets):
    def test_rows_of_that_name(self):
        sheet = Sheet(TEXT)
        self.says(sheet, "drop some", [])
        self.like(sheet, TEXT.replace("row some each t in things: bake(t) >= need(t, mon).", ""))
        self.says(sheet, "drop both", [])
        self.assertEqual([row.partition(":")[0] for row in sheet.say("rows")], ["enough", "odd"])
        self.stays(sheet, "drop some", ["no change"])
        self.says(sheet, "keep some", [])
        self.assertEqual(
            [row.partition(":")[0] for row in sheet.say("rows")], ["enough", "some(bread)", "some(cake)", "odd"],
        )
        self.stays(sheet, "keep some", ["no change"])
        self.says(sheet, "keep both", [])
        self.like(sheet, TEXT)
        self.says(sheet, "drop some", [])

    def test_all_rows(self):
        sheet = Sheet("unknown x from 0. row r: x <= 1. most x.")
        self.says(sheet, "drop r", [])
        self.assertEqual(sheet.say("answer")[0], "endless")
        self.says(sheet, "rows", [])
        self.says(sheet, "keep r", [])
        self.says(sheet, "answer", ["best 1", "x = 1"])

    def test_names_that_are_none(self):
        sheet = Sheet(TEXT)
        for word in ["drop", "keep"]:
            for name in ["nope", "have", "bake", "buy", "things", "bread", "t", "drop", "answer"]:
                self.stays(sheet, f"{word} {name}", ["no such name"])
        self.stays(sheet, "keep enough", ["no change"])
        sheet.say("drop enough")
        self.stays(sheet, "drop enough", ["no change"])


class FixAndFree(Sheets):
    def test_both_ends(self):
        sheet = Sheet(TEXT)
        self.says(sheet, "fix bake(bread) = 2", [])
        self.assertIn("bake(bread) = 2", sheet.say("answer"))
        self.says(sheet, "fix buy = 5/2", [])
        self.like_fixed(sheet, {"bake(bread)": (2, 1), "buy": (5, 2)})
        self.says(sheet, "fix bake(bread) = 3", [])
        self.like_fixed(sheet, {"bake(bread)": (3, 1), "buy": (5, 2)})
        self.says(sheet, "free buy", [])
        self.like_fixed(sheet, {"bake(bread)": (3, 1)})
        self.stays(sheet, "free buy", ["no change"])
        self.says(sheet, "free bake(bread)", [])
        self.like(sheet, TEXT)
        self.stays(sheet, "free bake(bread)", ["no change"])

    def like_fixed(self, sheet, fixed):
        plan = laid_out(read(TEXT))
        unknowns = tuple(
            held[:2] + (fixed[held[0]], fixed[held[0]]) if held[0] in fixed else held for held in plan[0]
        )
        plan = (unknowns,) + plan[1:]
        outcome = solved(plan)
        self.assertTrue(is_answer(plan, outcome))
        self.says(sheet, "answer", answer_rows(plan, outcome))
        self.says(sheet, "grounds", grounds_rows(plan, outcome))

    def test_beyond_its_own_ends(self):
        sheet = Sheet("unknown x whole from 0 to 9. unknown y from 1. row r: x + y <= 200. most x.")
        self.says(sheet, "fix x = 150", [])
        self.says(sheet, "fix y = -3/2", [])
        self.says(sheet, "answer", ["best 150", "x = 150", "y = -3/2"])
        self.says(sheet, "rows", ["r: 297/2 <= 200"])
        self.says(sheet, "fix x = -999999999", [])
        self.assertEqual(sheet.say("answer")[0], "best -999999999")
        self.says(sheet, "fix x = 999999999", [])
        self.says(sheet, "answer", ["none"])
        self.says(sheet, "free x", [])
        self.assertEqual(sheet.say("answer")[0], "best 9")

    def test_a_whole_unknown_fixed_to_no_whole_number(self):
        sheet = Sheet(TEXT)
        self.stays(sheet, "fix bake(bread) = 1/2", ["bad ends"])
        self.stays(sheet, "fix bake(cake) = -7/3", ["bad ends"])
        self.says(sheet, "fix bake(cake) = 4/2", [])
        self.stays(sheet, "fix bake(cake) = 5/2", ["bad ends"])
        self.says(sheet, "fix buy = 1/2", [])
        self.says(sheet, "fix other(cake, mon) = 1/3", [])

    def test_names_that_are_none(self):
        sheet = Sheet(TEXT)
        for name in [
            "nope", "have", "enough", "things", "bread", "bake", "bake(mon)", "bake(bread, mon)", "buy(bread)", "other",
            "other(bread)", "other(mon, bread)", "flour(bread)", "bake(nope)", "fix",
        ]:
            self.stays(sheet, f"fix {name} = 1", ["no such name"])
            self.stays(sheet, f"fix {name} = 1/2", ["no such name"])
            self.stays(sheet, f"free {name}", ["no such name"])

    def test_fixed_beside_other_changes(self):
        sheet = Sheet(TEXT)
        for line in ["fix buy = 1", "drop odd", "put have = 33", "fix bake(cake) = 12"]:
            self.says(sheet, line, [])
        self.says(sheet, "keep odd", [])
        self.says(sheet, "put have = 40", [])
        self.like_fixed(sheet, {"buy": (1, 1), "bake(cake)": (12, 1)})


class NoLines(Sheets):
    def test_what_is_none_of_the_lines(self):
        sheet = Sheet(TEXT)
        for line in [
            "", " ", "\n", "nope", "answers", "answer answer", "answer.", "answer 3", "grounds x", "labels,", "rows rows", "row",
            "put", "put have", "put have =", "put have 3", "put have = = 3", "put have = x", "put have = 3 4", "put have = 3.",
            "put have = 3/0", "put have = 1/2/3", "put have = --3", "put have = (3)", "put have = 1 + 2", "put have <= 3",
            "put = 3", "put 3 = 3", "put flour() = 3", "put flour( = 3", "put flour(bread = 3", "put flour(bread,) = 3",
            "put flour bread = 3", "put need(bread, mon, tue) = 3", "put need(bread mon) = 3", "put have = 007",
            "put have = 1234567890", "put flour(3) = 3", "put have, nil = 3", "put (have) = 3", "put have = 3, 4",
            "drop", "drop enough odd", "drop enough, odd", "drop 3", "drop some(bread)", "drop enough = 3", "drop enough.",
            "keep", "keep enough odd", "keep some(bread)", "fix", "fix buy", "fix buy =", "fix buy 3", "fix buy = x",
            "fix buy = 3 = 3", "fix = 3", "fix bake( = 3", "fix bake(bread = 3", "fix bake(a, b, c) = 3", "fix buy = 1/0",
            "free", "free buy buy", "free buy = 3", "free bake(", "free bake()", "free bake(a, b, c)", "free 3", "Answer",
            "ANSWER", "answer%", "put have = 50%", "fix buy = 1.5", "answer\t", "answer\r\n", "abcdefghi", "drop abcdefghi",
            "nope have = 3", "take flour(bread) = 3", "answer have = 3", "rows have = 3", "fixed buy = 3", "nope buy", "= 3", "(",
            "put have < 3", "an swer", "least", "most buy", "set a: b.", "<", "answer;", "\u00e9",
            "answer" + " " * 6000,
        ]:
            self.stays(sheet, line, ["no line"])
        self.says(sheet, "answer" + " " * 5994, sheet.say("answer"))

    def test_kept_words_where_a_name_is_wanted(self):
        sheet = Sheet(TEXT)
        for word in "set table unknown over whole from to row each in sum least most".split():
            for line in [
                word, f"put {word} = 3", f"put flour({word}) = 3", f"put need(bread, {word}) = 3", f"drop {word}", f"keep {word}",
                f"fix {word} = 3", f"fix bake({word}) = 3", f"free {word}", f"free bake({word})", f"{word} have = 3",
            ]:
                self.says(sheet, line, ["no line"])

    def test_what_is_no_text(self):
        sheet = Sheet(TEXT)
        for thing in [None, 3, True, b"answer", ["answer"], ("answer",), {}, 1.5, object()]:
            self.stays(sheet, thing, ["no line"])
        self.assertEqual(sheet.say(line="labels"), LABELS)

    def test_the_first_of_two_faults(self):
        sheet = Sheet("set s: a. table t over s: a 0. unknown x whole from 0 to 3. row r: t(a) * x * x <= 1. most x.")
        for line, told in [
            ("put nope(a) = 1/0", "no line"), ("put t = x", "no line"), ("fix nope = 1/0", "no line"), ("fix nope = 1/2", "no such name"),
            ("put nope = 1", "no such name"), ("put t(b) = 1", "no such name"), ("put t(a) = 1", "not linear"),
            ("fix x = 1/2", "bad ends"), ("drop set", "no line"), ("keep nope", "no such name"), ("keep r", "no change"),
            ("free nope", "no such name"), ("free x", "no change"), ("drop r r", "no line"),
        ]:
            self.stays(sheet, line, [told])
        sheet.say("drop r")
        sheet.say("put t(a) = 1")
        self.stays(sheet, "drop r", ["no change"])
        self.stays(sheet, "keep r", ["not linear"])
        self.stays(sheet, "keep nope", ["no such name"])


class Refused(Sheets):
    def test_as_read_then_as_laid_out(self):
        for kind, text in [
            (BadText, "least x"), (BadText, "unknown x. least y. most"), (BadText, 3), (BadText, None), (BadName, "least x."),
            (BadGoal, "unknown x."), (BadGoal, ""), (NotLinear, "unknown x. least x * x."), (BadText, "least y. least"),
        ]:
            self.assert_refused(kind, Sheet, text)
        self.assertEqual(Sheet(text="least 1.").say("answer"), ["best 1"])

    def test_two_sheets_beside_one_another(self):
        one = Sheet(TEXT)
        other = Sheet(TEXT)
        ahead = all_told(other)
        for line in ["put have = 3", "drop some", "fix buy = 2"]:
            self.says(one, line, [])
        self.assertEqual(all_told(other), ahead)
        self.says(other, "keep some", ["no change"])
        self.says(other, "free buy", ["no change"])
        self.assertNotEqual(all_told(one), ahead)
