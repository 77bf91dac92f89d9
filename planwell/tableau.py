"""Tableaus: tuples (rows, scale) of whole numbers, each of which stands for that many scale-th parts."""

from planwell.fractions import fraction


def pivoted(tableau, at, column):
    rows = tableau[0]
    scale = tableau[1]
    pivot = rows[at][column]
    # The scale has to stay above nought, so the pivot's sign goes into the numbers.
    if pivot < 0:
        top = [-number for number in rows[at]]
    else:
        top = list(rows[at])
    size = abs(pivot)
    made = []
    for place, row in enumerate(rows):
        if place == at:
            made.append([number * scale for number in top])
        else:
            held = row[column]
            made.append([number * size - held * taken for number, taken in zip(row, top)])
    return lowered((made, scale * size), scale)


def lowered(tableau, part):
    # Behind one pivot upon another from scale 1 on, the scale ahead divides all there is: so numbers stay small.
    for row in tableau[0]:
        for number in row:
            if number % part != 0:
                return tableau
    return ([[number // part for number in row] for row in tableau[0]], tableau[1] // part)


def value(tableau, at, column):
    return fraction(tableau[0][at][column], tableau[1])
