"""Terms read from words, those that bind least first."""

from planwell.cursor import Cursor
from planwell.errors import BadText
from planwell.terms import Entry, Minus, Negative, Number, Plus, Sum, Times

MOST_DEPTH = 60
MOST_OPEN = 30
MOST_SUMS = 3


def term_of(words, at):
    cursor = Cursor(words, at)
    term = term_at(cursor, 0, 0)
    return (term, cursor.at)


# Below, opened and sums are how many things stand open at the cursor, and how many sums lie round it: they are looked
# at ahead of each step down, so that no text leads deeper than they let it.
def term_at(cursor, opened, sums):
    term = product_at(cursor, opened, sums)
    while cursor.seen() in ("+", "-"):
        if cursor.passes("+"):
            term = checked_depth(Plus(term, product_at(cursor, opened, sums)))
        else:
            cursor.wants("-")
            term = checked_depth(Minus(term, product_at(cursor, opened, sums)))
    return term


def product_at(cursor, opened, sums):
    term = part_at(cursor, opened, sums)
    while cursor.passes("*"):
        term = checked_depth(Times(term, part_at(cursor, opened, sums)))
    return term


def part_at(cursor, opened, sums):
    if cursor.passes("-"):
        return checked_depth(Negative(part_at(cursor, one_more_open(opened), sums)))
    if cursor.passes("("):
        term = term_at(cursor, one_more_open(opened), sums)
        cursor.wants(")")
        return term
    if cursor.passes("sum"):
        return sum_at(cursor, opened, sums)
    if cursor.sees_number():
        return Number(cursor.take_ratio())
    return entry_at(cursor, opened)


def sum_at(cursor, opened, sums):
    if sums == MOST_SUMS:
        raise BadText("too many sums stand one within another")
    cursor.wants("(")
    binder = cursor.take_name()
    cursor.wants("in")
    group = cursor.take_name()
    cursor.wants(",")
    term = term_at(cursor, one_more_open(opened), sums + 1)
    cursor.wants(")")
    return checked_depth(Sum(binder, group, term))


def entry_at(cursor, opened):
    name = cursor.take_name()
    if not cursor.passes("("):
        return Entry(name, ())
    one_more_open(opened)
    return Entry(name, cursor.take_keys())


def one_more_open(opened):
    if opened == MOST_OPEN:
        raise BadText("too many things stand open at once")
    return opened + 1


def checked_depth(term):
    # Each term is asked as soon as it is made, so its parts are never deeper than may be.
    if term.depth() > MOST_DEPTH:
        raise BadText("a term is too deep")
    return term
