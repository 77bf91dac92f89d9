"""Plans solved with whole unknowns by splitting them, and the trees that show it."""

from planwell.desk import desk_for, first_desk
from planwell.fractions import down, is_whole, less, sign
from planwell.shows import floor, pairs_at, turned


def narrowed(plan, number, low, high):
    unknown = plan[0][number]
    ends = (higher_low(unknown[2], low), lower_high(unknown[3], high))
    unknowns = plan[0][:number] + (unknown[:2] + ends,) + plan[0][number + 1:]
    return (unknowns,) + plan[1:]


def higher_low(own, low):
    if low is None or own is not None and not less(own, (low, 1)):
        return own
    return (low, 1)


def lower_high(own, high):
    if high is None or own is not None and not less((high, 1), own):
        return own
    return (high, 1)


def solved(plan):
    desk = first_desk(plan)
    outcome = desk.solve()
    if outcome[0] != "endless":
        return Search(plan, desk, outcome).run()
    # A whole unknown has both ends, so the way stands still there: it leads on from any values that meet the plan.
    # Without pairs in the goal all worths are alike, and the first such values end the search.
    aimless = (plan[0], plan[1], (plan[2][0], (), plan[2][2]))
    desk = first_desk(aimless)
    found = Search(aimless, desk, desk.solve()).run()
    if found[0] == "none":
        return found
    return ("endless", found[1], outcome[2])


class Search:
    # Nodes are tuples, those that they are split into behind them: ("floor", prices), ("none", prices) or ("split",
    # number, k, place of one, place of the other). Those still to be split wait as (worth, place, plan, values).
    def __init__(self, plan, desk, outcome):
        self.goal = turned(plan)
        self.desk = desk
        self.nodes = []
        self.waiting = []
        self.best = None
        self.least = None
        self.add_node(plan, outcome)

    def run(self):
        while self.waiting:
            self.part_node(self.waiting.pop())
        if self.best is None:
            return ("none", self.tree())
        return ("best", self.best, self.tree())

    def add_node(self, plan, outcome):
        if outcome[0] == "none":
            self.nodes.append(outcome)
            return
        values = outcome[1]
        worth = pairs_at(self.goal, values)
        if self.least is None or less(worth, self.least):
            if first_broken(plan, values) is None:
                self.best = values
                self.least = worth
            else:
                self.wait((worth, len(self.nodes), plan, values))
        self.nodes.append(("floor", outcome[2]))

    def wait(self, node):
        # The least worth stands last and is split first, for it has to be split whatever is found elsewhere; of
        # equals the last one, which is the nearest to values that are whole.
        first = 0
        last = len(self.waiting)
        while first < last:
            middle = (first + last) // 2
            if less(self.waiting[middle][0], node[0]):
                last = middle
            else:
                first = middle + 1
        self.waiting.insert(first, node)

    def part_node(self, node):
        if self.least is not None and not less(node[0], self.least):
            return
        plan = node[2]
        number = first_broken(plan, node[3])
        k = down(node[3][number])
        place = len(self.nodes)
        self.nodes[node[1]] = ("split", number, k, place, place + 1)
        for part in (narrowed(plan, number, None, k), narrowed(plan, number, k + 1, None)):
            self.add_node(part, desk_for(part, self.desk).solve())

    def tree(self):
        # From behind, so that the trees of both sides are there ahead of the split's own.
        trees = {}
        for place, node in reversed(list(enumerate(self.nodes))):
            if node[0] == "split":
                trees[place] = node[:3] + (trees[node[3]], trees[node[4]])
            else:
                trees[place] = node
        return trees[0]


def first_broken(plan, values):
    for number, unknown in enumerate(plan[0]):
        if unknown[1] and values[number][1] != 1:
            return number
    return None


def shows_floor(plan, tree, least):
    goal = turned(plan)
    for part, leaf in leaves(plan, tree):
        if leaf[0] == "floor":
            found = floor(part, goal, leaf[1])
            if found is None or less(found, least):
                return False
        elif not is_torn(part, leaf):
            return False
    return True


def shows_none(plan, tree):
    return all([is_torn(part, leaf) for part, leaf in leaves(plan, tree)])


def is_torn(plan, leaf):
    if leaf[0] != "none":
        return False
    found = floor(plan, (), leaf[1])
    return found is not None and sign(found) > 0


def leaves(plan, tree):
    # A split that is none of the plan's is told like a leaf, which shows nothing.
    found = []
    waiting = [(plan, tree)]
    while waiting:
        pair = waiting.pop()
        part = pair[0]
        node = pair[1]
        if node[0] == "split" and may_split(part, node[1], node[2]):
            waiting.append((narrowed(part, node[1], node[2] + 1, None), node[4]))
            waiting.append((narrowed(part, node[1], None, node[2]), node[3]))
        else:
            found.append((part, node))
    return found


def may_split(plan, number, k):
    if not is_whole(number) or not is_whole(k) or not 0 <= number < len(plan[0]):
        return False
    unknown = plan[0][number]
    low = unknown[2]
    high = unknown[3]
    if not unknown[1] or low is not None and less((k, 1), low):
        return False
    return high is None or less((k, 1), high)
