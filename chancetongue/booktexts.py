"""Books as texts, and read from them."""

from chancetongue.errors import NoText
from chancetongue.expressions import is_name
from chancetongue.exprtexts import behind_word, expression_in, read_expression, show_expression
from chancetongue.figures import are_figures

MOST_WITHIN = 20


def book_text(book):
    """The one text of a book."""
    unknowns, fields, body = book
    rows = ["unknown " + drawn_text(name, alts) for name, alts in unknowns]
    rows.append(" ".join(["fields", *fields]))
    rows.extend(block_rows(body))
    return "\n".join(rows)


def drawn_text(name, alts):
    """The text of a name and what it is drawn from."""
    shown = [show_expression(weight) + " : " + show_expression(worth) for weight, worth in alts]
    return name + " from " + " , ".join(shown)


def block_rows(block):
    """The rows of a block's statements."""
    rows = []
    for statement in block:
        rows.extend(statement_rows(statement))
    return rows


def statement_rows(statement):
    """The rows of a statement."""
    kind = statement[0]
    if kind == "draw":
        return ["draw " + drawn_text(statement[1], statement[2])]
    if kind == "set":
        return ["set " + statement[1] + " " + show_expression(statement[2])]
    if kind == "see":
        return ["see " + show_expression(statement[1])]
    if kind == "if":
        head = "if " + show_expression(statement[1])
        return [head] + block_rows(statement[2]) + ["else"] + block_rows(statement[3]) + ["end"]
    return ["times " + str(statement[1])] + block_rows(statement[2]) + ["end"]


def read_book(text):
    """The book of a text; NoText(row) from the first row on that can't stand there."""
    rows = text.split("\n")
    unknowns = []
    at = 0
    while at < len(rows) and rows[at].startswith("unknown "):
        unknowns.append(unknown_at(rows, at))
        at += 1
    fields = fields_at(rows, at)
    body, at = block_at(rows, at + 1, 0)
    if at < len(rows):
        raise NoText(at)
    return (tuple(unknowns), fields, body)


def unknown_at(rows, at):
    """The unknown of a row, with its alternatives."""
    try:
        return drawn_in(rows[at].split(" "))
    except NoText:
        raise NoText(at) from None


def fields_at(rows, at):
    """The fields of a row."""
    if at == len(rows):
        raise NoText(at)
    word, *fields = rows[at].split(" ")
    if word != "fields" or not all([is_name(field) for field in fields]):
        raise NoText(at)
    return tuple(fields)


def block_at(rows, at, within):
    """The block that begins at a row, within so many ifs and times, and the number of the row behind it."""
    block = []
    while at < len(rows) and rows[at] not in ("else", "end"):
        statement, at = statement_at(rows, at, within)
        block.append(statement)
    return tuple(block), at


def statement_at(rows, at, within):
    """The statement that begins at a row, likewise."""
    try:
        own = own_row(rows[at])
    except NoText:
        raise NoText(at) from None
    if own[0] not in ("if", "times"):
        return own, at + 1
    if within == MOST_WITHIN:
        raise NoText(at)
    block, at = block_at(rows, at + 1, within + 1)
    if own[0] == "times":
        return (*own, block), behind_word(rows, at, "end")
    other, at = block_at(rows, behind_word(rows, at, "else"), within + 1)
    return (*own, block, other), behind_word(rows, at, "end")


def own_row(row):
    """A statement as its first row has it, without its blocks; NoText with any at where the row is none."""
    head, blank, rest = row.partition(" ")
    if head == "draw":
        name, alts = drawn_in(row.split(" "))
        return ("draw", name, alts)
    if head == "set":
        name, blank, rest = rest.partition(" ")
        if not is_name(name):
            raise NoText(0)
        return ("set", name, read_expression(rest))
    if head in ("see", "if"):
        return (head, read_expression(rest))
    if head == "times" and are_figures(rest, most=1):
        return ("times", int(rest))
    raise NoText(0)


def drawn_in(words):
    """The name and the alternatives of an unknown's or a draw's words; NoText with any at where they are none."""
    if len(words) < 3 or not is_name(words[1]) or words[2] != "from":
        raise NoText(0)
    alternative, at = alternative_in(words, 3)
    alts = [alternative]
    while at < len(words):
        alternative, at = alternative_in(words, behind_word(words, at, ","))
        alts.append(alternative)
    return words[1], tuple(alts)


def alternative_in(words, at):
    """The alternative that begins at a word, and the number of the word behind it."""
    weight, at = expression_in(words, at)
    worth, at = expression_in(words, behind_word(words, at, ":"))
    return (weight, worth), at
