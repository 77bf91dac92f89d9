"""Statements laid out as a plan: rows of numbers by the unknowns' numbers."""

from planwell.errors import BadGoal, TooMany
from planwell.fractions import NOUGHT, minus
from planwell.sums import added, negated
from planwell.terms import Entry
from planwell.world import World, keys_over

MOST_ROWS = 40


def laid_out(statements):
    world = World()
    rows = []
    goal = None
    for statement in statements:
        kind = statement[0]
        if kind == "goal" and goal is not None:
            raise BadGoal("there is a second goal")
        world.learn(statement)
        if kind == "row":
            rows.extend(laid_rows(statement, world))
            if len(rows) > MOST_ROWS:
                raise TooMany("there are too many rows")
        if kind == "goal":
            goal = laid_goal(statement, world)
    if goal is None:
        raise BadGoal("there is no goal")
    return (tuple(world.unknowns()), tuple(rows), goal)


def label(name, keys):
    return Entry(name, keys).shown()


def laid_rows(statement, world):
    binders = statement[2]
    places = keys_over([world.members(group) for binder, group in binders])
    return [laid_row(statement, keys, world) for keys in places]


def laid_row(statement, keys, world):
    binders = statement[2]
    left = all_put(statement[3], binders, keys).laid(world)
    right = all_put(statement[5], binders, keys).laid(world)
    difference = added(left, negated(right))
    return (label(statement[1], keys), difference[1], statement[4], minus(NOUGHT, difference[0]))


def all_put(term, binders, keys):
    for pair, member in zip(binders, keys):
        term = term.put(pair[0], member)
    return term


def laid_goal(statement, world):
    worth = statement[2].laid(world)
    return (statement[1], worth[1], worth[0])
