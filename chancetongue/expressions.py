"""Expressions: their names, parts and values."""

LETTERS = "abcdefghijklmnopqrstuvwxyz"
LONGEST_NAME = 6
WORDS = (
    "unknown", "fields", "draw", "from", "set", "see", "if",
    "else", "end", "times", "not", "ask", "at", "given",
)
SIGNS = ("+", "-", "*", "<", "=", "&", "|")
LIMIT = 1000


def is_name(text):
    """Whether a text is a name."""
    if not 1 <= len(text) <= LONGEST_NAME or text in WORDS:
        return False
    return all([sign in LETTERS for sign in text])


def inner_of(expression):
    """The expressions right within one, from left to right."""
    kind = expression[0]
    if kind == "op":
        return expression[2:]
    if kind in ("not", "if"):
        return expression[1:]
    return ()


def parts_of(expression):
    """The expression and all in it: itself first, then those in it from left to right, each with all in it."""
    parts = []
    waiting = [expression]
    while waiting:
        part = waiting.pop()
        parts.append(part)
        waiting.extend(inner_of(part)[::-1])
    return parts


def names_of(expression):
    """The names in an expression, each once, as they first stand."""
    names = []
    for part in parts_of(expression):
        if part[0] == "name" and part[1] not in names:
            names.append(part[1])
    return tuple(names)


def joined(sign, one, other):
    """The value of two numbers under a sign."""
    if sign == "+":
        return (one + other) % LIMIT
    if sign == "-":
        return (one - other) % LIMIT
    if sign == "*":
        return (one * other) % LIMIT
    if sign == "<":
        return 1 if one < other else 0
    if sign == "=":
        return 1 if one == other else 0
    if sign == "&":
        return 0 if one == 0 or other == 0 else 1
    return 0 if one == 0 and other == 0 else 1


def value_of(expression, known):
    """The value of an expression, by a dict from names to numbers."""
    kind = expression[0]
    if kind == "num":
        return expression[1]
    if kind == "name":
        return known[expression[1]]
    if kind == "not":
        return 1 if value_of(expression[1], known) == 0 else 0
    if kind == "if":
        chosen = expression[3] if value_of(expression[1], known) == 0 else expression[2]
        return value_of(chosen, known)
    return joined(expression[1], value_of(expression[2], known), value_of(expression[3], known))


def is_so(expression, known):
    """Whether an expression is so: whether its value isn't 0."""
    return value_of(expression, known) != 0
