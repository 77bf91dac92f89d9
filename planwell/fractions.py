"""Fractions: tuples (top, bottom) of whole numbers in lowest terms, the bottom 1 or greater."""

from planwell.errors import BadFraction

NOUGHT = (0, 1)
ONE = (1, 1)


def is_whole(thing):
    # True and False are ints to Python, but no whole numbers here.
    return isinstance(thing, int) and not isinstance(thing, bool)


def greatest_divisor(one, other):
    while other != 0:
        rest = one % other
        one = other
        other = rest
    return one


def is_fraction(thing):
    if not isinstance(thing, tuple) or len(thing) != 2:
        return False
    top = thing[0]
    bottom = thing[1]
    if not is_whole(top) or not is_whole(bottom) or bottom < 1:
        return False
    return greatest_divisor(abs(top), bottom) == 1


def fraction(top, bottom=1):
    if bottom == 0:
        raise BadFraction("a fraction's bottom is 0")
    if bottom < 0:
        return fraction(-top, -bottom)
    divisor = greatest_divisor(abs(top), bottom)
    return (top // divisor, bottom // divisor)


def plus(one, other):
    return fraction(one[0] * other[1] + other[0] * one[1], one[1] * other[1])


def minus(one, other):
    return fraction(one[0] * other[1] - other[0] * one[1], one[1] * other[1])


def times(one, other):
    return fraction(one[0] * other[0], one[1] * other[1])


def over(one, other):
    return fraction(one[0] * other[1], one[1] * other[0])


def less(one, other):
    return one[0] * other[1] < other[0] * one[1]


def sign(one):
    if one[0] > 0:
        return 1
    if one[0] < 0:
        return -1
    return 0


def down(one):
    return one[0] // one[1]


def up(one):
    # Whole division goes down on both sides of nought, so going up is going down on the other side.
    return -(-one[0] // one[1])


def shown_fraction(one):
    top = one[0]
    bottom = one[1]
    if bottom == 1:
        return f"{top}"
    return f"{top}/{bottom}"
