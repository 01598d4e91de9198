"""Things that several tests make: seeded, so that each run makes the same."""

import random

SIGNS = ("+", "-", "*", "<", "=", "&", "|")
WORDS = (
    "unknown", "fields", "draw", "from", "set", "see", "if",
    "else", "end", "times", "not", "ask", "at", "given",
)


def num(n):
    return ("num", n)


def name(x):
    return ("name", x)


def op(sign, one, other):
    return ("op", sign, one, other)


def some_expression(source, names, deep):
    """An expression at most so deep over names, by a random.Random."""
    kind = source.choice(("num", "name", "op", "op", "not", "if")) if deep > 0 else source.choice(("num", "name"))
    if kind == "name" and names:
        return name(source.choice(names))
    if kind in ("num", "name"):
        return num(source.choice((0, 1, 2, 9, 10, 500, 999)))
    if kind == "op":
        return op(source.choice(SIGNS), *[some_expression(source, names, deep - 1) for k in range(2)])
    many = 1 if kind == "not" else 3
    return (kind, *[some_expression(source, names, deep - 1) for k in range(many)])


def deep_expression(deep):
    """An expression just so deep, leaning left, right and through each form."""
    made = name("x")
    for k in range(deep):
        made = (
            ("not", made),
            op("+", made, num(k)),
            op("<", num(k), made),
            ("if", made, num(1), num(2)),
            ("if", num(1), num(2), made),
        )[k % 5]
    return made


def source_of(seed):
    return random.Random(seed)
