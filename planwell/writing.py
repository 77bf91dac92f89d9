"""Statements written as a text that is read to the same."""

from planwell.fractions import shown_fraction


def written(statements):
    return "\n".join([written_statement(statement) for statement in statements])


def written_statement(statement):
    kind = statement[0]
    if kind == "set":
        return written_set(statement)
    if kind == "table":
        return written_table(statement)
    if kind == "unknown":
        return written_unknown(statement)
    if kind == "row":
        return written_row(statement)
    way = statement[1]
    term = statement[2].shown()
    return f"{way} {term}."


def written_set(statement):
    name = statement[1]
    members = ", ".join(statement[2])
    return f"set {name}: {members}."


def written_table(statement):
    head = statement[1] + written_sets(statement[2])
    entries = ", ".join([written_entry(keys, worth) for keys, worth in statement[3]])
    return f"table {head}: {entries}."


def written_entry(keys, worth):
    return " ".join(list(keys) + [shown_fraction(worth)])


def written_sets(groups):
    if not groups:
        return ""
    return " over " + ", ".join(groups)


def written_unknown(statement):
    text = "unknown " + statement[1] + written_sets(statement[2])
    if statement[3]:
        text += " whole"
    if statement[4] is not None:
        text += " from " + shown_fraction(statement[4])
    if statement[5] is not None:
        text += " to " + shown_fraction(statement[5])
    return text + "."


def written_row(statement):
    head = statement[1] + written_binders(statement[2])
    left = statement[3].shown()
    sign = statement[4]
    right = statement[5].shown()
    return f"row {head}: {left} {sign} {right}."


def written_binders(binders):
    if not binders:
        return ""
    return " each " + ", ".join([f"{name} in {group}" for name, group in binders])
