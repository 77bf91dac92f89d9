"""The program as a whole: a text from its first word to the grounds of its answer, and promise 1."""

import copy
import os
import re

from planwell.branches import shows_floor, shows_none, solved
from planwell.laying import laid_out
from planwell.reading import read, told
from planwell.shows import leads_on, meets, pairs_at, turned
from planwell.sheet import Sheet
from planwell.solving import loose
from planwell.telling import answer_rows, grounds_rows, read_grounds
from planwell.writing import written
from tests.asking import Asking
from tests.grounds import is_answer, is_loose_answer

ROOT = os.path.dirname(os.path.dirname(os.path.abspath(__file__)))
TEXTS = [
    """set shops: north, south. set goods: tea, milk, rye. table price over goods: tea 7/2, milk 4/3, rye 5.
    table wish over shops, goods: north tea 3, north milk 8, north rye 1/2, south tea 0, south milk 2, south rye 9/4.
    table room over shops: north 10, south 13/2.
    unknown sell over shops, goods from 0. unknown cart over shops whole from 0 to 4.
    row wished each s in shops, g in goods: sell(s, g) <= wish(s, g).
    row loaded each s in shops: sum(g in goods, sell(s, g)) <= 3 * cart(s).
    row full each s in shops: cart(s) * 5/2 <= room(s). row all: cart(north) + cart(south) <= 5.
    most sum(s in shops, sum(g in goods, price(g) * sell(s, g)) - 3 * cart(s)) + 10.""",
    "unknown x whole from 0 to 20. unknown y whole from -20 to 0. row r: 6 * x + 10 * y = 7. least x - y.",
    "unknown x whole from 0 to 20. unknown y. row r: x * 1/3 - y <= 5/7. most 2 * y + x.",
    """set s: a, b, c, d. unknown x over s, s from 0 to 1.
    row one each i in s: sum(j in s, x(i, j)) = 1. row two each j in s: sum(i in s, x(i, j)) = 1.
    table cost over s, s: a a 3, a b 1, a c 4, a d 1, b a 5, b b 9, b c 2, b d 6, c a 5, c b 3, c c 5, c d 8, d a 9, d b 7,
    d c 9, d d 3. least sum(i in s, sum(j in s, cost(i, j) * x(i, j))).""",
    "most 0. row r: 1 >= 2.",
]


class Whole(Asking):
    def test_from_the_text_to_the_grounds(self):
        kinds = []
        for text in TEXTS:
            statements = read(text)
            plan = laid_out(statements)
            self.assertEqual(laid_out(read(written(statements))), plan)
            self.assertTrue(is_loose_answer(plan, loose(plan)))
            outcome = solved(plan)
            self.assertTrue(is_answer(plan, outcome))
            sheet = Sheet(text)
            self.assertEqual(sheet.say("answer"), answer_rows(plan, outcome))
            self.check_grounds(plan, outcome, read_grounds(plan, sheet.say("grounds")))
            kinds.append(outcome[0])
        self.assertEqual(kinds, ["best", "none", "endless", "best", "none"])

    def check_grounds(self, plan, outcome, grounds):
        if outcome[0] == "best":
            self.assertTrue(meets(plan, outcome[1]))
            self.assertTrue(shows_floor(plan, grounds, pairs_at(turned(plan), outcome[1])))
        elif outcome[0] == "none":
            self.assertTrue(shows_none(plan, grounds))
        else:
            self.assertTrue(meets(plan, outcome[1]))
            self.assertTrue(leads_on(plan, grounds))

    def test_nothing_that_is_handed_in_is_changed(self):
        for text in TEXTS:
            statements = read(text)
            held = told(statements)
            plan = laid_out(statements)
            kept = copy.deepcopy(plan)
            outcome = solved(plan)
            ahead = copy.deepcopy(outcome)
            loose(plan)
            answer_rows(plan, outcome)
            rows = grounds_rows(plan, outcome)
            rows_ahead = list(rows)
            read_grounds(plan, rows)
            self.assertEqual((told(statements), plan, outcome, rows), (held, kept, ahead, rows_ahead))

    def test_what_was_asked_ahead_changes_no_answer(self):
        plans = [laid_out(read(text)) for text in TEXTS]
        first = [(loose(plan), solved(plan)) for plan in plans]
        behind = [(loose(plan), solved(plan)) for plan in reversed(plans)]
        self.assertEqual(first, behind[::-1])

    def test_the_readme(self):
        with open(os.path.join(ROOT, "README.md"), encoding="utf-8") as file:
            blocks = re.findall(r"```python\n(.*?)```", file.read(), re.DOTALL)
        self.assertEqual(len(blocks), 2)
        for block in blocks:
            exec(block, {})
        sheet_block = blocks[0]
        replay = {}
        exec(sheet_block.split("\n\nsheet.say")[0], replay)
        said = re.findall(r'^(sheet\.say\("[^"]*"\)) +# (\[.*\])$', sheet_block, re.MULTILINE)
        self.assertGreater(len(said), 4)
        for line, answer in said:
            self.assertEqual(eval(line, replay), eval(answer), line)
