"""What is known where, and books and asks looked at."""

from chancetongue.books import expressions_of, expressions_of_alts, is_number, statements_of
from chancetongue.errors import NoAsk, NoBook
from chancetongue.expressions import SIGNS, is_name, parts_of

MOST_TIMES = 3


def known_at(book, n):
    """The locals that are known at a statement, rising."""
    told = []
    known_past(book[2], (), told)
    return told[n]


def known_behind(book):
    """The locals that are known behind the last statement, rising."""
    return known_past(book[2], (), [])


def known_past(block, known, told):
    """What is known behind a block; what is known at each of its statements is appended to told."""
    for statement in block:
        told.append(known)
        known = known_past_one(statement, known, told)
    return known


def known_past_one(statement, known, told):
    """What is known behind a statement; likewise of those in its blocks."""
    kind = statement[0]
    if kind in ("draw", "set"):
        return tuple(sorted(set([*known, statement[1]])))
    if kind == "if":
        one = known_past(statement[2], known, told)
        other = known_past(statement[3], known, told)
        return tuple([name for name in one if name in other])
    if kind == "times":
        return known_past(statement[2], known, told)
    return known


def amiss(part, known):
    """What is amiss with a part of an expression, as a word, or None."""
    kind = part[0]
    if kind == "num" and not is_number(part[1]):
        return "num"
    if kind == "op" and part[1] not in SIGNS:
        return "sign"
    if kind == "name" and part[1] not in known:
        return "lost"
    return None


def look_name(name, taken, word, place):
    """Refuses what is no name, then, by the word, a name that is taken."""
    if not is_name(name):
        raise NoBook("name", place)
    if name in taken:
        raise NoBook(word, place)


def look_expressions(expressions, known, place):
    """Refuses the first part of expressions that is amiss."""
    for expression in expressions:
        for part in parts_of(expression):
            word = amiss(part, known)
            if word is not None:
                raise NoBook(word, place)


def look_statement(statement, kept, known, place):
    """Refuses a statement that isn't let by; those in its blocks aren't looked at."""
    kind = statement[0]
    if kind in ("draw", "set"):
        look_name(statement[1], kept, "kept", place)
    if kind == "times" and not 1 <= statement[1] <= MOST_TIMES:
        raise NoBook("times", place)
    look_expressions(expressions_of(statement), kept + known, place)


def look(book):
    """True of a book that is let by; NoBook(word, place) of what is amiss first."""
    unknowns, fields, body = book
    kept = ()
    for k, (name, alts) in enumerate(unknowns):
        look_name(name, kept, "twice", ("unknown", k))
        look_expressions(expressions_of_alts(alts), kept, ("unknown", k))
        kept = (*kept, name)
    for k, name in enumerate(fields):
        look_name(name, kept, "twice", ("field", k))
        kept = (*kept, name)
    known = []
    known_past(body, (), known)
    for n, statement in enumerate(statements_of(book)):
        look_statement(statement, kept, known[n], ("body", n))
    return True


def look_ask(book, ask, *, at_row=False):
    """True of an ask that is let by, of the whole or at a row; NoAsk(at) of its first part that is amiss."""
    known = tuple([name for name, alts in book[0]])
    if at_row:
        known = known + book[1] + known_behind(book)
    for at, part in enumerate(parts_of(ask)):
        if amiss(part, known) is not None:
            raise NoAsk(at)
    return True
