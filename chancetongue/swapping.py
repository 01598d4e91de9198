"""Expressions and rows of flows with other leaves: numbers stay, names and the like are swapped."""

from chancetongue.expressions import inner_of


def swapped(expression, leaves):
    """An expression with other leaves, by a dict from leaves to leaves."""
    inner = inner_of(expression)
    if len(inner) == 0:
        return leaves.get(expression, expression)
    ahead = expression[:len(expression) - len(inner)]
    return ahead + tuple([swapped(part, leaves) for part in inner])


def swapped_row(row, leaves, word):
    """A flow's row with other leaves; what it sets is taken as a leaf of this word."""
    kind = row[0]
    if kind == "draw":
        alts = tuple([(swapped(weight, leaves), swapped(value, leaves)) for weight, value in row[2]])
        return (kind, leaves[(word, row[1])][1], alts, row[3])
    if kind == "set":
        return (kind, leaves[(word, row[1])][1], swapped(row[2], leaves), row[3])
    return (kind, swapped(row[1], leaves)) + row[2:]
