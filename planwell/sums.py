"""Sums: tuples (constant, pairs), so much of each unknown by its number and a constant besides."""

from planwell.errors import NotLinear
from planwell.fractions import NOUGHT, ONE, plus, sign, times


def plain(one):
    return (one, ())


def single(number):
    return (NOUGHT, ((number, ONE),))


def pairs_of(parts):
    return tuple([(number, parts[number]) for number in sorted(parts) if sign(parts[number]) != 0])


def added(one, other):
    parts = dict(one[1])
    for number, part in other[1]:
        parts[number] = plus(parts.get(number, NOUGHT), part)
    return (plus(one[0], other[0]), pairs_of(parts))


def scaled(one, part):
    # A part of nought would leave pairs of nought, which no sum has.
    if sign(part) == 0:
        return plain(NOUGHT)
    return (times(one[0], part), tuple([(number, times(held, part)) for number, held in one[1]]))


def negated(one):
    return scaled(one, (-1, 1))


def multiplied(one, other):
    if one[1] and other[1]:
        raise NotLinear("both sums that are multiplied have unknowns")
    if one[1]:
        return scaled(one, other[0])
    return scaled(other, one[0])


def worth(one, values):
    total = one[0]
    for number, part in one[1]:
        total = plus(total, times(part, values[number]))
    return total
