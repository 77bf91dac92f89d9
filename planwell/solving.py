"""Plans loosely solved: whole unknowns are taken like all others."""

from planwell.desk import first_desk


def loose(plan):
    return first_desk(plan).solve()
