"""Books and rows."""

from chancetongue.expressions import LIMIT


def blocks_of(statement):
    """The blocks right within a statement, in order."""
    kind = statement[0]
    if kind == "if":
        return (statement[2], statement[3])
    if kind == "times":
        return (statement[2],)
    return ()


def statements_of(book):
    """All statements of a book, in order: one ahead of those in its blocks."""
    found = []
    waiting = list(book[2])[::-1]
    while waiting:
        statement = waiting.pop()
        found.append(statement)
        inner = [part for block in blocks_of(statement) for part in block]
        waiting.extend(inner[::-1])
    return found


def expressions_of_alts(alts):
    """The expressions of alternatives, in order: each one's weight, then its value."""
    return [expression for alternative in alts for expression in alternative]


def expressions_of(statement):
    """A statement's own expressions, in order."""
    kind = statement[0]
    if kind == "draw":
        return expressions_of_alts(statement[2])
    if kind == "set":
        return [statement[2]]
    if kind in ("see", "if"):
        return [statement[1]]
    return []


def is_number(thing):
    """Whether a thing is a whole number as books and rows have them."""
    return isinstance(thing, int) and not isinstance(thing, bool) and 0 <= thing < LIMIT


def is_row(book, row):
    """Whether a thing is a row of a book."""
    if not isinstance(row, tuple) or len(row) != len(book[1]):
        return False
    return all([is_number(thing) for thing in row])
