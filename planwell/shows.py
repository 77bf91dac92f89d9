"""Numbers by which whoever reads them can see that an answer is so."""

from planwell.fractions import NOUGHT, less, minus, plus, sign, times
from planwell.sums import added, scaled, worth


def meets(plan, values):
    if not loosely_meets(plan, values):
        return False
    return all([value[1] == 1 for unknown, value in zip(plan[0], values) if unknown[1]])


def loosely_meets(plan, values):
    if len(values) != len(plan[0]):
        return False
    for unknown, value in zip(plan[0], values):
        if not between(value, unknown[2], unknown[3]):
            return False
    return all([stands(pairs_at(pairs, values), mark, bound) for name, pairs, mark, bound in plan[1]])


def worth_of(plan, values):
    return plus(pairs_at(plan[2][1], values), plan[2][2])


def turned(plan):
    way = plan[2][0]
    pairs = plan[2][1]
    if way == "least":
        return pairs
    return tuple([(number, minus(NOUGHT, part)) for number, part in pairs])


def floor(plan, pairs, prices):
    rows = plan[1]
    if len(prices) != len(rows):
        return None
    left = (NOUGHT, pairs)
    total = NOUGHT
    for row, price in zip(rows, prices):
        if not goes_with(sign(price), row[2]):
            return None
        left = added(left, scaled((NOUGHT, row[1]), minus(NOUGHT, price)))
        total = plus(total, times(price, row[3]))
    for number, part in left[1]:
        end = end_for(plan[0][number], part)
        if end is None:
            return None
        total = plus(total, times(part, end))
    return total


def leads_on(plan, way):
    if len(way) != len(plan[0]):
        return False
    for unknown, step in zip(plan[0], way):
        if unknown[2] is not None and sign(step) < 0 or unknown[3] is not None and sign(step) > 0:
            return False
    if not all([stands(pairs_at(pairs, way), mark, NOUGHT) for name, pairs, mark, bound in plan[1]]):
        return False
    return sign(pairs_at(turned(plan), way)) < 0


def pairs_at(pairs, values):
    return worth((NOUGHT, pairs), values)


def between(value, low, high):
    if low is not None and less(value, low):
        return False
    return high is None or not less(high, value)


def stands(left, mark, bound):
    if mark == "<=":
        return not less(bound, left)
    if mark == ">=":
        return not less(left, bound)
    return left == bound


def goes_with(price_sign, mark):
    if mark == "<=":
        return price_sign <= 0
    if mark == ">=":
        return price_sign >= 0
    return True


def end_for(unknown, part):
    # More of it makes the worth greater where the part is above nought, so there the low end bounds it from below.
    if sign(part) > 0:
        return unknown[2]
    return unknown[3]
