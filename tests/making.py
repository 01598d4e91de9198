"""Things that several tests make: seeded, so that each run makes the same."""

import random

SIGNS = ("+", "-", "*", "<", "=", "&", "|")
WORDS = (
    "unknown", "fields", "draw", "from", "set", "see", "if",
    "else", "end", "times", "not", "ask", "at", "given",
)


def num(n):
    return ("num", n)


def name(x):
    return ("name", x)


def op(sign, one, other):
    return ("op", sign, one, other)


def some_expression(source, names, deep):
    """An expression at most so deep over names, by a random.Random."""
    kind = source.choice(("num", "name", "op", "op", "not", "if")) if deep > 0 else source.choice(("num", "name"))
    if kind == "name" and names:
        return name(source.choice(names))
    if kind in ("num", "name"):
        return num(source.choice((0, 1, 2, 9, 10, 500, 999)))
    if kind == "op":
        return op(source.choice(SIGNS), *[some_expression(source, names, deep - 1) for k in range(2)])
    many = 1 if kind == "not" else 3
    return (kind, *[some_expression(source, names, deep - 1) for k in range(many)])


def deep_expression(deep):
    """An expression just so deep, leaning left, right and through each form."""
    made = name("x")
    for k in range(deep):
        made = (
            ("not", made),
            op("+", made, num(k)),
            op("<", num(k), made),
            ("if", made, num(1), num(2)),
            ("if", num(1), num(2), made),
        )[k % 5]
    return made


def source_of(seed):
    return random.Random(seed)


def mutations(source, items, pool):
    """Items with one left out, twice, another, put in, exchanged: one of each, at some places."""
    at, other = source.randrange(len(items)), source.randrange(len(items))
    thing = source.choice(pool)
    yield items[:at] + items[at + 1:]
    yield items[:at] + [items[at]] + items[at:]
    yield items[:at] + [thing] + items[at + 1:]
    yield items[:at] + [thing] + items[at:]
    yield items + [thing]
    yield items[:at]
    swapped = list(items)
    swapped[at], swapped[other] = swapped[other], swapped[at]
    yield swapped


NEW_NAMES = ("p", "q", "r", "sum")


def some_alts(source, names):
    return tuple(
        (some_expression(source, names, 1), some_expression(source, names, 2)) for k in range(source.randrange(1, 4))
    )


def some_block(source, known, within):
    """A block that is let by where these names are known, and what is known behind it."""
    block = []
    for k in range(source.randrange(0, 5)):
        kind = source.choice(("draw", "set", "set", "see", "if", "times"))
        if kind == "draw":
            block.append(("draw", source.choice(NEW_NAMES), some_alts(source, known)))
        elif kind == "set":
            block.append(("set", source.choice(NEW_NAMES), some_expression(source, known, 2)))
        elif kind == "see":
            block.append(("see", some_expression(source, known, 3)))
        elif within == 3:
            continue
        elif kind == "if":
            one, behind_one = some_block(source, known, within + 1)
            other, behind_other = some_block(source, known, within + 1)
            block.append(("if", some_expression(source, known, 2), one, other))
            known = tuple(x for x in behind_one if x in behind_other)
        else:
            inner, known = some_block(source, known, within + 1)
            block.append(("times", source.randrange(1, 4), inner))
        if block[-1][0] in ("draw", "set"):
            known = (*known, block[-1][1])
    return tuple(block), known


def some_book(source):
    """A book that is let by."""
    unknowns = ("a", "b", "c")[:source.randrange(0, 4)]
    fields = ("f", "g", "h")[:source.randrange(0, 4)]
    drawn = tuple((x, some_alts(source, unknowns[:k])) for k, x in enumerate(unknowns))
    return (drawn, fields, some_block(source, unknowns + fields, 0)[0])


def nested_book(deep):
    """A book with so many ifs and times within one another, the innermost block empty."""
    block = ()
    for k in range(deep):
        block = ((("times", k % 10, block)),) if k % 3 == 0 else (
            (("if", num(k), block, ()),) if k % 3 == 1 else (("see", num(1)), ("if", num(k), (), block))
        )
    return ((), (), block)


def late(source, known):
    """One of the names known, mostly of those that were set last: they differ from way to way."""
    return source.choice(known[-2:] if source.randrange(3) else known)


def few_weights(source, known):
    """A weight of at most 15."""
    kind = source.randrange(8)
    if kind == 0:
        return num(0)
    if kind == 1 and known:
        return op(source.choice("<="), name(late(source, known)), num(source.randrange(4)))
    if kind == 2 and known:
        return ("if", name(late(source, known)), num(source.randrange(5)), num(source.randrange(5)))
    return num(source.randrange(1, 16))


def few_values(source, known):
    """A value, mostly a small one, so that ways meet again."""
    kind = source.randrange(5)
    if kind == 0 and known:
        return op(source.choice(SIGNS), name(late(source, known)), num(source.randrange(3)))
    if kind == 1 and known:
        return some_expression(source, known, 2)
    return num(source.randrange(3))


def few_alts(source, known):
    many = source.choice((1, 2, 2, 2, 3, 3, 4))
    return tuple((few_weights(source, known), few_values(source, known)) for k in range(many))


def few_test(source, known):
    """A test that is often so, and often isn't."""
    if not known:
        return num(source.randrange(3))
    kind = source.randrange(4)
    if kind == 0:
        return name(late(source, known))
    if kind == 1:
        return some_expression(source, known, 2)
    one, other = name(late(source, known)), num(source.randrange(3))
    return source.choice((op("=", one, other), op("<", one, other), op("<", other, one), op("|", one, other)))


def few_block(source, known, within):
    """A block that is let by where these names are known, and what is known behind it."""
    block = []
    for k in range(source.randrange(1 - min(within, 1), 8 - 2 * within)):
        kind = source.choice(("draw", "draw", "draw", "set", "see", "if", "times"))
        if kind in ("draw", "set"):
            x = source.choice(NEW_NAMES)
            block.append((kind, x, few_alts(source, known) if kind == "draw" else few_values(source, known)))
            known = (*[y for y in known if y != x], x)
        elif kind == "see":
            block.append(("see", few_test(source, known)))
        elif kind == "if" and within < 3:
            one, behind_one = few_block(source, known, within + 1)
            other, behind_other = few_block(source, known, within + 1)
            block.append(("if", few_test(source, known), one, other))
            known = tuple(x for x in behind_one if x in behind_other)
        elif kind == "times" and within < 3:
            inner, known = few_block(source, known, within + 1)
            block.append(("times", source.randrange(1, 4), inner))
    return tuple(block), known


def bounds_of(block):
    """Of a block: at most how many ways, how many draws on a way, rows of its flow."""
    ways, draws, rows = 1, 0, 0
    for statement in block:
        if statement[0] == "draw":
            inner = (len(statement[2]), 1, 1)
        elif statement[0] == "if":
            one, other = bounds_of(statement[2]), bounds_of(statement[3])
            inner = (max(one[0], other[0]), max(one[1], other[1]), 1 + one[2] + other[2])
        elif statement[0] == "times":
            one = bounds_of(statement[2])
            inner = (one[0] ** statement[1], one[1] * statement[1], one[2] * statement[1])
        else:
            inner = (1, 0, 1)
        ways, draws, rows = ways * inner[0], draws + inner[1], rows + inner[2]
    return ways, draws, rows


def few_ways_book(source, most=300, rows=79):
    """A book that is let by and within the document's bounds, an ask at a row of it, and one of the whole."""
    while True:
        unknowns = ("a", "b", "c")[:source.choice((0, 1, 1, 2, 2, 3))]
        fields = ("f", "g", "h")[:source.choice((0, 1, 1, 2, 3))]
        drawn = tuple((x, few_alts(source, unknowns[:k])) for k, x in enumerate(unknowns))
        body, known = few_block(source, unknowns + fields, 0)
        ways, draws, many = bounds_of(body)
        if body and ways <= most and draws <= 6 and many <= rows:
            return (drawn, fields, body), few_test(source, known), few_test(source, unknowns)


def some_row(source, book):
    return tuple(source.randrange(3) for x in book[1])


def some_values(source, book):
    return tuple(source.randrange(4) for x in book[0])
