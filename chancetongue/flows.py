"""Flows: a book's body as rows, each of which leads to greater ones, and the locals that are live at each."""

from chancetongue.books import expressions_of_alts
from chancetongue.expressions import names_of

ALWAYS = ("num", 1)


def all_so(expressions):
    """An expression that is so where all of these are so."""
    found = ALWAYS
    for expression in expressions:
        found = ("op", "&", found, expression)
    return found


def unrolled(block):
    """A block's statements in order, a times' block as often as it says; ifs stay as they are."""
    found = []
    for statement in block:
        if statement[0] == "times":
            found.extend(unrolled(statement[2]) * statement[1])
        else:
            found.append(statement)
    return found


def many_rows(block):
    """How many rows of a flow a block has."""
    many = 0
    for statement in unrolled(block):
        many += 1
        if statement[0] == "if":
            many += many_rows(statement[2]) + many_rows(statement[3])
    return many


def put_block(rows, block, behind):
    """Appends a block's rows; its last one leads to the row of the number behind."""
    statements = unrolled(block)
    for place, statement in enumerate(statements):
        following = behind
        if place + 1 < len(statements):
            following = len(rows) + many_rows((statement,))
        put_statement(rows, statement, following)


def put_statement(rows, statement, following):
    """Appends the rows of a statement that is no times; they lead to the row of the number following."""
    if statement[0] != "if":
        rows.append((*statement, following))
        return
    test, one, other = statement[1:]
    first = len(rows) + 1
    second = first + many_rows(one)
    beyond = second + many_rows(other)
    to_one = first if first < second else following
    to_other = second if second < beyond else following
    rows.append(("branch", test, to_one, to_other))
    put_block(rows, one, following)
    put_block(rows, other, following)


def flow_of(book, *, asked=ALWAYS):
    """The flow of a book, for an expression asked at its end."""
    rows = []
    put_block(rows, book[2], many_rows(book[2]))
    rows.append(("end", asked))
    return tuple(rows)


def leads_of(row):
    """The numbers of the rows to which a row leads."""
    kind = row[0]
    if kind == "end":
        return ()
    if kind == "branch":
        return row[2:]
    return row[-1:]


def set_by(row):
    """The local that a row sets, or None."""
    return row[1] if row[0] in ("draw", "set") else None


def read_by(row):
    """The names that a row reads; one that stands in several expressions is there several times."""
    kind = row[0]
    expressions = [row[1]]
    if kind == "draw":
        expressions = expressions_of_alts(row[2])
    if kind == "set":
        expressions = [row[2]]
    return [name for expression in expressions for name in names_of(expression)]


def kept_names(book):
    """The names of a book's unknowns and fields, which are no locals."""
    return tuple([name for name, alts in book[0]]) + book[1]


def live_at(book, rows):
    """The live locals of each row of a flow, rising."""
    kept = kept_names(book)
    live = [() for row in rows]
    # Each row leads to greater ones, so these are done when it is come to.
    for r in range(len(rows) - 1, -1, -1):
        names = [name for name in read_by(rows[r]) if name not in kept]
        for following in leads_of(rows[r]):
            names.extend([name for name in live[following] if name != set_by(rows[r])])
        live[r] = tuple(sorted(set(names)))
    return live
