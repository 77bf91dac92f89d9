"""A desk: a plan's rows as a tableau, and where its unknowns stand, while the plan is loosely solved.

Each row of the plan has a sum of its own, which is what its pairs come to, with the bound as an end. A tableau's row
says of one unknown or sum, which rests there, how it follows from those at the columns, each of which stands at one
of its ends (or anywhere, where it has none). The tableau's last row says so of the turned goal.
"""

from planwell.fractions import fraction, greatest_divisor, times
from planwell.shows import turned
from planwell.tableau import pivoted

HASTY_STEPS = 200


class Desk:
    # Ends and spots are whole numbers of unit-th parts; the sum of a row is taken times the row's factor.
    def __init__(self, plan, factors, unit, tableau, resting, standing, spots):
        self.factors = factors
        self.unit = unit
        self.ends = [whole_ends(low, high, unit) for low, high in all_ends(plan, factors)]
        self.tableau = tableau
        self.resting = list(resting)
        self.standing = list(standing)
        self.spots = [kept_between(spot, self.ends[number]) for number, spot in zip(standing, spots)]
        # How many mending steps may still be chosen in haste; see torn and mending.
        self.hasty = HASTY_STEPS
        # Whether the last step towards the goal led nowhere; see entering.
        self.stuck = False

    def solve(self):
        prices = self.mend()
        if prices is not None:
            return ("none", prices)
        return self.improve()

    def mend(self):
        while True:
            tops = self.tops()
            at = self.torn(tops)
            if at is None:
                return None
            wanted = 1 if self.gap(at, tops[at]) < 0 else -1
            column = self.mending(at, wanted)
            if column is None:
                return self.prices(self.torn_parts(at, wanted))
            self.exchange(at, column, self.ends[self.resting[at]][0 if wanted > 0 else 1])
            self.hasty -= 1

    def improve(self):
        while True:
            found = self.entering()
            tops = self.tops()
            if found is None:
                return ("best", self.values_by(tops), self.prices(self.goal_parts()))
            column = found[0]
            step = found[1]
            limit = self.limit(column, step, tops)
            if limit is None:
                return ("endless", self.values_by(tops), self.way(column, step))
            self.stuck = limit[0] == 0
            if limit[2] is None:
                self.spots[column] = limit[3]
            else:
                self.exchange(limit[2], column, limit[3])

    def tops(self):
        # What rests at each row, in parts of scale times unit.
        return [-sum([number * spot for number, spot in zip(row, self.spots)]) for row in self.tableau[0]]

    def gap(self, at, top):
        # How far what rests there lies beyond its ends: below nought where it lies below the low one.
        scale = self.tableau[1]
        low = self.ends[self.resting[at]][0]
        high = self.ends[self.resting[at]][1]
        if low is not None and top < low * scale:
            return top - low * scale
        if high is not None and top > high * scale:
            return top - high * scale
        return 0

    # The greatest gap first, and where it hurts the goal least, leaves least to be done behind it, but may lead round
    # a ring: so behind some steps the row and the column with the least numbers are taken, which lead round none.
    def torn(self, tops):
        found = None
        greatest = 0
        for at, number in enumerate(self.resting):
            gap = abs(self.gap(at, tops[at]))
            if gap > 0 and (found is None or self.is_torn_more(gap, greatest, number, self.resting[found])):
                found = at
                greatest = gap
        return found

    def is_torn_more(self, gap, other_gap, number, other):
        if self.hasty > 0 and gap != other_gap:
            return gap > other_gap
        return number < other

    def mending(self, at, wanted):
        row = self.tableau[0][at]
        found = None
        for column, number in enumerate(row):
            if number != 0 and self.may_move(column, -wanted if number > 0 else wanted):
                if found is None or self.mends_better(row, column, found):
                    found = column
        return found

    def mends_better(self, row, column, other):
        goal = self.tableau[0][-1]
        hurt = abs(goal[column] * row[other])
        other_hurt = abs(goal[other] * row[column])
        if self.hasty > 0 and hurt != other_hurt:
            return hurt < other_hurt
        return self.standing[column] < self.standing[other]

    def may_move(self, column, step):
        end = self.ends[self.standing[column]][1 if step > 0 else 0]
        return end is None or self.spots[column] != end

    def entering(self):
        # The steepest column leads on fastest, but may lead round a ring where steps lead nowhere: there the column
        # with the least number is taken until a step leads on.
        found = None
        for column, number in enumerate(self.tableau[0][-1]):
            step = 1 if number > 0 else -1
            if number != 0 and self.may_move(column, step):
                if found is None or self.goes_ahead(column, found[0]):
                    found = (column, step)
        return found

    def goes_ahead(self, column, other):
        goal = self.tableau[0][-1]
        if self.stuck or abs(goal[column]) == abs(goal[other]):
            return self.standing[column] < self.standing[other]
        return abs(goal[column]) > abs(goal[other])

    def limit(self, column, step, tops):
        # A tuple (room, rate, row, end): room by rate is how far the column may go until what rests at the row comes
        # to that end; the row is None where the column's own other end comes first.
        own = self.ends[self.standing[column]]
        least = None
        if own[0] is not None and own[1] is not None:
            least = (own[1] - own[0], 1, None, own[1 if step > 0 else 0])
        for at in range(len(self.resting)):
            rate = -self.tableau[0][at][column] * step
            end = self.ends[self.resting[at]][1 if rate > 0 else 0]
            if rate != 0 and end is not None:
                room = abs(end * self.tableau[1] - tops[at])
                if least is None or self.comes_first(room, abs(rate), at, least):
                    least = (room, abs(rate), at, end)
        return least

    def comes_first(self, room, rate, at, least):
        one = room * least[1]
        other = least[0] * rate
        if one != other or least[2] is None:
            return one < other
        return self.resting[at] < self.resting[least[2]]

    def exchange(self, at, column, spot):
        # The column of what rests at a row is nought but there; it takes the place of the column that comes to rest.
        scale = self.tableau[1]
        wider = [row + [scale if place == at else 0] for place, row in enumerate(self.tableau[0])]
        made = pivoted((wider, scale), at, column)
        self.tableau = ([row[:column] + row[-1:] + row[column + 1:-1] for row in made[0]], made[1])
        number = self.resting[at]
        self.resting[at] = self.standing[column]
        self.standing[column] = number
        self.spots[column] = spot

    def values_by(self, tops):
        width = len(self.standing)
        values = [None] * width
        for number, spot in zip(self.standing, self.spots):
            if number < width:
                values[number] = fraction(spot, self.unit)
        for number, top in zip(self.resting, tops):
            if number < width:
                values[number] = fraction(top, self.tableau[1] * self.unit)
        return tuple(values)

    def way(self, column, step):
        width = len(self.standing)
        steps = [(0, 1)] * width
        if self.standing[column] < width:
            steps[self.standing[column]] = (step, 1)
        for at, number in enumerate(self.resting):
            if number < width:
                steps[number] = fraction(-self.tableau[0][at][column] * step, self.tableau[1])
        return tuple(steps)

    # Parts are a dict of so much of each number, as (top, bottom).
    def goal_parts(self):
        goal = self.tableau[0][-1]
        bottom = self.tableau[1] * self.factors[-1]
        return dict([(number, (-part, bottom)) for number, part in zip(self.standing, goal)])

    def torn_parts(self, at, wanted):
        # What rests there and the row's parts come to nought together, yet their ends keep them from it.
        scale = self.tableau[1]
        row = self.tableau[0][at]
        parts = dict([(number, (part * wanted, scale)) for number, part in zip(self.standing, row)])
        parts[self.resting[at]] = (wanted, 1)
        return parts

    def prices(self, parts):
        width = len(self.standing)
        found = []
        for at, factor in enumerate(self.factors[:-1]):
            part = parts.get(width + at, (0, 1))
            found.append(fraction(part[0] * factor, part[1]))
        return tuple(found)


def first_desk(plan):
    width = len(plan[0])
    height = len(plan[1])
    all_pairs = [row[1] for row in plan[1]] + [turned(plan)]
    factors = [common_multiple([part for number, part in pairs]) for pairs in all_pairs]
    rows = [whole_row(pairs, factor, width) for pairs, factor in zip(all_pairs, factors)]
    bounds = []
    for low, high in all_ends(plan, factors):
        bounds.extend([end for end in (low, high) if end is not None])
    resting = list(range(width, width + height))
    return Desk(plan, factors, common_multiple(bounds), (rows, 1), resting, list(range(width)), [None] * width)


def desk_for(plan, desk):
    # The plan is to be the desk's own but for ends that let less in: whole numbers, so the unit serves them, too.
    return Desk(plan, desk.factors, desk.unit, desk.tableau, desk.resting, desk.standing, desk.spots)


def common_multiple(parts):
    found = 1
    for part in parts:
        found = found * (part[1] // greatest_divisor(found, part[1]))
    return found


def whole_row(pairs, factor, width):
    row = [0] * width
    for number, part in pairs:
        row[number] = -whole_part(part, factor)
    return row


def whole_part(part, unit):
    return part[0] * (unit // part[1])


def all_ends(plan, factors):
    found = [(unknown[2], unknown[3]) for unknown in plan[0]]
    for row, factor in zip(plan[1], factors):
        bound = times(row[3], (factor, 1))
        found.append((None if row[2] == "<=" else bound, None if row[2] == ">=" else bound))
    return found


def whole_ends(low, high, unit):
    return (None if low is None else whole_part(low, unit), None if high is None else whole_part(high, unit))


def kept_between(spot, ends):
    if ends[0] is not None and (spot is None or spot < ends[0]):
        return ends[0]
    if ends[1] is not None and (spot is None or spot > ends[1]):
        return ends[1]
    return 0 if spot is None else spot
