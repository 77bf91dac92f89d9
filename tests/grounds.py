"""Promises 17 to 19 and 22 by sums of the tests' own, and plans to ask them of."""

import random
from fractions import Fraction

from planwell.fractions import fraction, is_fraction


def grown(one):
    assert is_fraction(one), one
    return Fraction(one[0], one[1])


def at(pairs, values):
    return sum((grown(part) * values[number] for number, part in pairs), Fraction(0))


def turned_pairs(plan):
    way, pairs, constant = plan[2]
    return pairs if way == "least" else tuple((number, (-top, bottom)) for number, (top, bottom) in pairs)


def stands(left, mark, right):
    return {"<=": left <= right, ">=": left >= right, "=": left == right}[mark]


def meets_loosely(plan, values):
    assert isinstance(values, tuple) and len(values) == len(plan[0])
    held = [grown(value) for value in values]
    for (label, whole, low, high), value in zip(plan[0], held):
        if low is not None and value < grown(low) or high is not None and value > grown(high):
            return False
    return all(stands(at(pairs, held), mark, grown(bound)) for label, pairs, mark, bound in plan[1])


def meets_wholly(plan, values):
    return meets_loosely(plan, values) and all(value[1] == 1 for unknown, value in zip(plan[0], values) if unknown[1])


def worth_at(plan, values):
    return at(turned_pairs(plan), [grown(value) for value in values])


def floor_by(plan, pairs, prices):
    assert isinstance(prices, tuple) and len(prices) == len(plan[1])
    left = [Fraction(0)] * len(plan[0])
    for number, part in pairs:
        left[number] += grown(part)
    total = Fraction(0)
    for (label, row, mark, bound), price in zip(plan[1], prices):
        price = grown(price)
        if mark == ">=" and price < 0 or mark == "<=" and price > 0:
            return None
        total += price * grown(bound)
        for number, part in row:
            left[number] -= price * grown(part)
    for (label, whole, low, high), part in zip(plan[0], left):
        end = low if part > 0 else high
        if part != 0:
            if end is None:
                return None
            total += part * grown(end)
    return total


def is_way_on(plan, way):
    assert isinstance(way, tuple) and len(way) == len(plan[0])
    steps = [grown(step) for step in way]
    for (label, whole, low, high), step in zip(plan[0], steps):
        if low is not None and step < 0 or high is not None and step > 0:
            return False
    rows = all(stands(at(pairs, steps), mark, 0) for label, pairs, mark, bound in plan[1])
    return rows and at(turned_pairs(plan), steps) < 0


def is_loose_answer(plan, answer):
    assert isinstance(answer, tuple)
    if answer[0] == "best":
        kind, values, prices = answer
        return meets_loosely(plan, values) and floor_by(plan, turned_pairs(plan), prices) == worth_at(plan, values)
    if answer[0] == "none":
        kind, prices = answer
        found = floor_by(plan, (), prices)
        return found is not None and found > 0
    kind, values, way = answer
    return kind == "endless" and meets_loosely(plan, values) and is_way_on(plan, way)


def cut(plan, number, low, high):
    label, whole, own_low, own_high = plan[0][number]
    unknown = (label, whole, own_low if low is None else (low, 1), own_high if high is None else (high, 1))
    return (plan[0][:number] + (unknown,) + plan[0][number + 1:],) + plan[1:]


def tree_floors(plan, tree):
    """The kinds of all leaves, and the floors they have: None where there is none, or a split is wrong."""
    if tree[0] != "split":
        kind, prices = tree
        return [(kind, floor_by(plan, turned_pairs(plan) if kind == "floor" else (), prices))]
    kind, number, k, one, other = tree
    label, whole, low, high = plan[0][number]
    if kind != "split" or not whole or not grown(low) <= k < grown(high):
        return [("split", None)]
    return tree_floors(cut(plan, number, None, k), one) + tree_floors(cut(plan, number, k + 1, None), other)


def is_answer(plan, answer):
    assert isinstance(answer, tuple)
    if answer[0] == "best":
        kind, values, tree = answer
        floors = tree_floors(plan, tree)
        worth = worth_at(plan, values)
        shown = [found is not None and (found >= worth if kind == "floor" else found > 0) for kind, found in floors]
        return meets_wholly(plan, values) and all(shown)
    if answer[0] == "none":
        kind, tree = answer
        return all(kind == "none" and found is not None and found > 0 for kind, found in tree_floors(plan, tree))
    kind, values, way = answer
    return kind == "endless" and meets_wholly(plan, values) and is_way_on(plan, way)


class Maker:
    """Plans by chance, but the same ones each time."""

    def __init__(self, seed, figures=1):
        self.chance = random.Random(seed)
        self.figures = figures

    def number(self):
        if self.figures > 1:
            most = 10 ** self.figures - 1
            return fraction(self.chance.randint(-most, most), self.chance.randint(1, most))
        return fraction(self.chance.randint(-6, 6), self.chance.choice([1, 1, 1, 2, 3]))

    def pairs(self, width, share=0.6):
        found = [(number, self.number()) for number in range(width) if self.chance.random() < share]
        return tuple((number, part) for number, part in found if part[0] != 0)

    def unknown(self, label):
        low = self.number() if self.chance.random() < 0.7 else None
        high = self.number() if self.chance.random() < 0.5 else None
        if low is not None and high is not None and grown(low) > grown(high):
            low, high = high, low
        return (label, False, low, high)

    def whole_unknown(self, label, between):
        low = self.chance.randint(-3, 3)
        return (label, True, (low, 1), (low + self.chance.randint(0, between), 1))

    def row(self, label, width):
        mark = self.chance.choice(["<=", "<=", ">=", ">=", "="])
        return (label, self.pairs(width), mark, self.number() if self.chance.random() < 0.7 else (0, 1))

    def plan(self, width, height, whole=0.0, between=5):
        unknowns = [
            self.whole_unknown(f"x{number}", between) if self.chance.random() < whole else self.unknown(f"x{number}")
            for number in range(width)
        ]
        rows = [self.row(f"r{number}", width) for number in range(height)]
        goal = (self.chance.choice(["least", "most"]), self.pairs(width), self.number())
        return (tuple(unknowns), tuple(rows), goal)
