"""Answers and their grounds told as rows of text, and grounds read from them again."""

from planwell.fractions import shown_fraction
from planwell.shows import worth_of


def answer_rows(plan, outcome):
    kind = outcome[0]
    if kind == "none":
        return ["none"]
    values = outcome[1]
    head = "endless"
    if kind == "best":
        head = "best " + shown_fraction(worth_of(plan, values))
    return [head] + [value_row(unknown[0], value) for unknown, value in zip(plan[0], values)]


def value_row(label, value):
    shown = shown_fraction(value)
    return f"{label} = {shown}"


def grounds_rows(plan, outcome):
    kind = outcome[0]
    if kind == "endless":
        return [numbers_row("way", outcome[2])]
    if kind == "none":
        return tree_rows(plan, outcome[1])
    return tree_rows(plan, outcome[2])


def numbers_row(word, numbers):
    return " ".join([word] + [shown_fraction(number) for number in numbers])


# Trees may be deeper than calls may be, so they are walked by a list of what is still to be told.
def tree_rows(plan, tree):
    rows = []
    waiting = [("", tree)]
    while waiting:
        pair = waiting.pop()
        ahead = pair[0]
        node = pair[1]
        if node[0] == "split":
            rows.append(ahead + split_row(plan, node[1], node[2]))
            waiting.append((ahead + "  ", node[4]))
            waiting.append((ahead + "  ", node[3]))
        else:
            rows.append(ahead + numbers_row(node[0], node[1]))
    return rows


def split_row(plan, number, k):
    label = plan[0][number][0]
    return f"split {label} {k}"


def read_grounds(plan, rows):
    numbers = dict([(unknown[0], number) for number, unknown in enumerate(plan[0])])
    # From behind, so that the trees of both sides of a split are there ahead of its row, the first side's on top.
    made = []
    for row in reversed(rows):
        text = row.lstrip(" ")
        if text.startswith("split "):
            one = made.pop()
            other = made.pop()
            made.append(read_split(text, numbers) + (one, other))
        else:
            made.append(read_numbers(text))
    return made[0]


def read_split(text, numbers):
    # A label may have blanks, but K has none.
    parts = text[len("split "):].rpartition(" ")
    return ("split", numbers[parts[0]], int(parts[2]))


def read_numbers(text):
    parts = text.split(" ")
    numbers = tuple([read_fraction(part) for part in parts[1:]])
    if parts[0] == "way":
        return numbers
    return (parts[0], numbers)


def read_fraction(text):
    parts = text.partition("/")
    if parts[1] == "":
        return (int(parts[0]), 1)
    return (int(parts[0]), int(parts[2]))
