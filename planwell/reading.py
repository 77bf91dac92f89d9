"""Statements read from a text, as tuples."""

from planwell.cursor import Cursor
from planwell.errors import BadText
from planwell.parsing import term_at
from planwell.terms import Term
from planwell.words import words

MOST_MEMBERS = 8
MOST_SETS = 2
MOST_BINDERS = 2


def read(text):
    cursor = Cursor(words(text), 0)
    statements = []
    while cursor.seen() != "":
        statements.append(statement_at(cursor))
        cursor.wants(".")
    return statements


def told(statements):
    return [tuple([told_part(part) for part in statement]) for statement in statements]


def told_part(part):
    if isinstance(part, Term):
        return part.told()
    return part


def statement_at(cursor):
    if cursor.passes("set"):
        return set_at(cursor)
    if cursor.passes("table"):
        return table_at(cursor)
    if cursor.passes("unknown"):
        return unknown_at(cursor)
    if cursor.passes("row"):
        return row_at(cursor)
    for way in ("least", "most"):
        if cursor.passes(way):
            return ("goal", way, term_at(cursor, 0, 0))
    raise BadText("no statement begins here")


def set_at(cursor):
    name = cursor.take_name()
    cursor.wants(":")
    return ("set", name, cursor.take_names(MOST_MEMBERS))


def sets_at(cursor):
    if cursor.passes("over"):
        return cursor.take_names(MOST_SETS)
    return ()


def table_at(cursor):
    name = cursor.take_name()
    groups = sets_at(cursor)
    cursor.wants(":")
    entries = [entry_at(cursor, groups)]
    # Without sets there is one value alone.
    while groups and cursor.passes(","):
        entries.append(entry_at(cursor, groups))
    return ("table", name, groups, tuple(entries))


def entry_at(cursor, groups):
    keys = tuple([cursor.take_name() for group in groups])
    return (keys, cursor.take_value())


def unknown_at(cursor):
    name = cursor.take_name()
    groups = sets_at(cursor)
    whole = cursor.passes("whole")
    low = end_at(cursor, "from")
    high = end_at(cursor, "to")
    return ("unknown", name, groups, whole, low, high)


def end_at(cursor, word):
    if cursor.passes(word):
        return cursor.take_value()
    return None


def row_at(cursor):
    name = cursor.take_name()
    binders = binders_at(cursor)
    cursor.wants(":")
    left = term_at(cursor, 0, 0)
    sign = sign_at(cursor)
    right = term_at(cursor, 0, 0)
    return ("row", name, binders, left, sign, right)


def binders_at(cursor):
    if not cursor.passes("each"):
        return ()
    binders = [binder_at(cursor)]
    while len(binders) < MOST_BINDERS and cursor.passes(","):
        binders.append(binder_at(cursor))
    return tuple(binders)


def binder_at(cursor):
    name = cursor.take_name()
    cursor.wants("in")
    return (name, cursor.take_name())


def sign_at(cursor):
    for sign in ("<=", ">=", "="):
        if cursor.passes(sign):
            return sign
    raise BadText("a sign is wanted")
