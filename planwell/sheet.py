"""A sheet: a text's statements with some changes, asked and changed by lines."""

from planwell.branches import solved
from planwell.cursor import Cursor
from planwell.errors import BadText, NotLinear
from planwell.fractions import shown_fraction
from planwell.laying import label, laid_out
from planwell.reading import read
from planwell.shows import pairs_at
from planwell.telling import answer_rows, grounds_rows
from planwell.words import words

NO_LINE = "no line"
NO_NAME = "no such name"
NO_CHANGE = "no change"
BAD_ENDS = "bad ends"
NOT_LINEAR = "not linear"
NO_ANSWER = "no answer"


class Sheet:
    def __init__(self, text):
        self.statements = read(text)
        # The plan without fixed ends, and the answer, or None as long as it wasn't asked for.
        self.plan = laid_out(self.statements)
        self.outcome = None
        self.worths = {}
        self.dropped = {}
        self.fixed = {}

    def say(self, line):
        try:
            order = order_of(line)
        except BadText:
            return [NO_LINE]
        word = order[0]
        if word in ("put", "drop", "keep"):
            return self.change_statements(order)
        if word in ("fix", "free"):
            return self.change_ends(order)
        return self.asked(word)

    def asked(self, word):
        plan = with_ends(self.plan, self.fixed)
        if word == "labels":
            return [unknown[0] for unknown in plan[0]]
        if self.outcome is None:
            self.outcome = solved(plan)
        if word == "answer":
            return answer_rows(plan, self.outcome)
        if word == "grounds":
            return grounds_rows(plan, self.outcome)
        return met_rows(plan, self.outcome)

    def change_statements(self, order):
        fault = self.statement_fault(order)
        if fault is not None:
            return [fault]
        worths = dict(self.worths)
        dropped = dict(self.dropped)
        if order[0] == "put":
            worths[(order[1], order[2])] = order[3]
        else:
            dropped[order[1]] = order[0] == "drop"
        try:
            plan = laid_out(with_changes(self.statements, worths, dropped))
        except NotLinear:
            return [NOT_LINEAR]
        self.worths = worths
        self.dropped = dropped
        self.plan = plan
        self.outcome = None
        return []

    def statement_fault(self, order):
        name = order[1]
        if order[0] == "put":
            return None if has_cell(self.statements, name, order[2]) else NO_NAME
        if not has_row(self.statements, name):
            return NO_NAME
        if self.dropped.get(name, False) == (order[0] == "drop"):
            return NO_CHANGE
        return None

    def change_ends(self, order):
        named = label(order[1], order[2])
        found = [unknown for unknown in self.plan[0] if unknown[0] == named]
        if not found:
            return [NO_NAME]
        fixed = dict(self.fixed)
        if order[0] == "free":
            if named not in fixed:
                return [NO_CHANGE]
            fixed.pop(named)
        else:
            if found[0][1] and order[3][1] != 1:
                return [BAD_ENDS]
            fixed[named] = order[3]
        self.fixed = fixed
        self.outcome = None
        return []


def order_of(line):
    cursor = Cursor(words(line), 0)
    order = order_at(cursor)
    if cursor.seen() != "":
        raise BadText("more words stand behind the line")
    return order


def order_at(cursor):
    word = cursor.take_name()
    if word in ("answer", "grounds", "labels", "rows"):
        return (word,)
    if word in ("drop", "keep"):
        return (word, cursor.take_name())
    if word not in ("put", "fix", "free"):
        raise BadText("no line begins so")
    name = cursor.take_name()
    keys = cursor.take_keys() if cursor.passes("(") else ()
    if word == "free":
        return (word, name, keys)
    cursor.wants("=")
    return (word, name, keys, cursor.take_value())


def has_cell(statements, name, keys):
    for statement in statements:
        if statement[0] == "table" and statement[1] == name:
            return any([held == keys for held, worth in statement[3]])
    return False


def has_row(statements, name):
    return any([statement[0] == "row" and statement[1] == name for statement in statements])


def with_changes(statements, worths, dropped):
    found = []
    for statement in statements:
        kind = statement[0]
        name = statement[1]
        if kind == "table":
            found.append(with_worths(statement, worths))
        elif kind != "row" or not dropped.get(name, False):
            found.append(statement)
    return found


def with_worths(statement, worths):
    name = statement[1]
    entries = [(keys, worths.get((name, keys), worth)) for keys, worth in statement[3]]
    return statement[:3] + (tuple(entries),)


def with_ends(plan, fixed):
    unknowns = []
    for unknown in plan[0]:
        if unknown[0] in fixed:
            end = fixed[unknown[0]]
            unknowns.append(unknown[:2] + (end, end))
        else:
            unknowns.append(unknown)
    return (tuple(unknowns),) + plan[1:]


def met_rows(plan, outcome):
    if outcome[0] == "none":
        return [NO_ANSWER]
    return [met_row(row, outcome[1]) for row in plan[1]]


def met_row(row, values):
    name = row[0]
    left = shown_fraction(pairs_at(row[1], values))
    mark = row[2]
    right = shown_fraction(row[3])
    return f"{name}: {left} {mark} {right}"
