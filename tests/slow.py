"""The same as the program tells, written separately: straight from the document's words, with Python's own fractions."""

from fractions import Fraction


def slow_value(expression, known):
    kind, *rest = expression
    if kind == "num":
        return rest[0]
    if kind == "name":
        return known[rest[0]]
    if kind == "op":
        sign, one, other = rest[0], slow_value(rest[1], known), slow_value(rest[2], known)
        return {
            "+": (one + other) % 1000, "-": (one - other) % 1000, "*": one * other % 1000, "<": int(one < other),
            "=": int(one == other), "&": int(bool(one and other)), "|": int(bool(one or other)),
        }[sign]
    inner = [slow_value(part, known) for part in rest]
    if kind == "not":
        return int(not inner[0])
    return inner[1] if inner[0] else inner[2]


def slow_draw(alts, known):
    """The ways on of a draw: (fraction, value)."""
    weights = [slow_value(weight, known) for weight, value in alts]
    return [
        (Fraction(weight, sum(weights)), slow_value(alternative[1], known))
        for weight, alternative in zip(weights, alts) if weight
    ]


def slow_unknowns(book):
    """All ways of the unknowns: (fraction, values)."""
    ways = [(Fraction(1), {})]
    for x, alts in book[0]:
        ways = [(share * part, {**known, x: value}) for share, known in ways for part, value in slow_draw(alts, known)]
    return [(share, tuple(known.values())) for share, known in ways]


def slow_block(block, ways):
    """The ways behind a block: (fraction, known), statement by statement."""
    for statement in block:
        kind = statement[0]
        if kind == "draw":
            ways = [
                (share * part, {**known, statement[1]: value})
                for share, known in ways for part, value in slow_draw(statement[2], known)
            ]
        elif kind == "set":
            ways = [(share, {**known, statement[1]: slow_value(statement[2], known)}) for share, known in ways]
        elif kind == "see":
            ways = [(share, known) for share, known in ways if slow_value(statement[1], known)]
        elif kind == "if":
            ways = [
                way for share, known in ways
                for way in slow_block(statement[2 if slow_value(statement[1], known) else 3], [(share, known)])
            ]
        else:
            for k in range(statement[1]):
                ways = slow_block(statement[2], ways)
    return ways


def slow_known(book, values, row):
    return {**dict(zip([x for x, alts in book[0]], values)), **dict(zip(book[1], row))}


def slow_ways(book, values, row):
    """All ways of a row that end: (fraction, known), known with the unknowns and fields."""
    return slow_block(book[2], [(Fraction(1), slow_known(book, values, row))])


def slow_all(book, rows, ask, conditions=(), at=None):
    """How many ways of the whole there are, and the two fractions, each way gone through by itself."""
    many, met, so = 0, Fraction(0), Fraction(0)
    for share, values in slow_unknowns(book):
        wholes = [(share, [])]
        for row in rows:
            wholes = [
                (one * part, [*ends, known]) for one, ends in wholes for part, known in slow_ways(book, values, row)
            ]
        whole_known = slow_known(book, values, ())
        for one, ends in wholes:
            many += 1
            if all(slow_value(E, whole_known if place is None else ends[place]) for E, place in conditions):
                met += one
                so += one if slow_value(ask, whole_known if at is None else ends[at]) else 0
    return many, met, so


def slow_flow(book, asked):
    """The flow of a book: first linked rows, from the end backward, then numbered as they stand."""
    order = []

    def linked(block, behind):
        """The first row of a block, a list that a later row of the block is linked in; rows in their order."""
        flat = []
        for statement in block:
            flat.extend([statement] if statement[0] != "times" else [("same", statement[2])] * statement[1])
        rows, first = [], behind
        for statement in flat[::-1]:
            if statement[0] == "same":
                first, inner = linked(statement[1], first)
                rows = inner + rows
            elif statement[0] == "if":
                one, ones = linked(statement[2], first)
                other, others = linked(statement[3], first)
                first = ["branch", statement[1], one, other]
                rows = [first, *ones, *others, *rows]
            else:
                first = [*statement, first]
                rows = [first, *rows]
        return first, rows

    end = ["end", asked]
    order = [*linked(book[2], end)[1], end]

    def number(row):
        return [k for k in range(len(order)) if order[k] is row][0]

    return tuple(
        tuple(number(part) if isinstance(part, list) else part for part in row) for row in order
    )


def slow_leads(row):
    return {"end": (), "branch": row[2:]}.get(row[0], row[-1:])


def slow_names(thing):
    """All names in an expression, or in alternatives of them."""
    if not isinstance(thing, tuple):
        return set()
    if len(thing) == 2 and thing[0] == "name":
        return {thing[1]}
    return set().union(*[slow_names(part) for part in thing])


def slow_reads(row):
    return slow_names(row[2] if row[0] in ("draw", "set") else row[1])


def slow_sets(row):
    return row[1] if row[0] in ("draw", "set") else None


def slow_roads(flow, r=0):
    """All roads from a row to the end, whatever weights and tests are."""
    if not slow_leads(flow[r]):
        return [[r]]
    return [[r, *road] for n in sorted(set(slow_leads(flow[r]))) for road in slow_roads(flow, n)]


def slow_live(book, flow):
    """The live locals of each row, road by road."""
    kept = set([x for x, alts in book[0]]) | set(book[1])
    live = [set() for row in flow]
    for r in range(len(flow)):
        for road in slow_roads(flow, r):
            lost = set()
            for place in road:
                live[r] |= slow_reads(flow[place]) - kept - lost
                lost.add(slow_sets(flow[place]))
    return [tuple(sorted(names)) for names in live]


def slow_walks(flow, known, r=0):
    """All ways along a flow, ended or not: lists of (row, fraction so far, known there), each as far as it comes."""
    walks = []

    def walk(r, share, known, ahead):
        here = [*ahead, (r, share, known)]
        row = flow[r]
        if row[0] == "draw":
            further = [(part, row[3], {**known, row[1]: value}) for part, value in slow_draw(row[2], known)]
        elif row[0] == "set":
            further = [(1, row[3], {**known, row[1]: slow_value(row[2], known)})]
        elif row[0] == "see":
            further = [(1, row[2], known)] if slow_value(row[1], known) else []
        elif row[0] == "branch":
            further = [(1, row[2] if slow_value(row[1], known) else row[3], known)]
        else:
            further = []
        for part, n, there in further:
            walk(n, share * part, there, here)
        if not further:
            walks.append(here)

    walk(r, Fraction(1), known, [])
    return walks


def as_share(fraction):
    fraction = Fraction(fraction)
    return (fraction.numerator, fraction.denominator)


def as_fraction(share):
    return Fraction(*share)
