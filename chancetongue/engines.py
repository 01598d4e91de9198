"""Engines: a share reckoned without a case, row by row, in one of four ways."""

from chancetongue.errors import NoEngine, NoRow, NoWays
from chancetongue.expressions import is_so
from chancetongue.flows import all_so, flow_of
from chancetongue.going import known_by
from chancetongue.looking import look_ask
from chancetongue.machine import run_code
from chancetongue.packing import packed
from chancetongue.shares import NONE, product_of, quotient_of, sum_of
from chancetongue.standings import is_there
from chancetongue.tables import share_along
from chancetongue.ways import ended_ways, prior_of, share_so
from chancetongue.worths import worths_of


def by_ways(book, values, row, asked):
    """The share of a row, by values, whose ways are so at the end: here by going through them."""
    return share_so(ended_ways(flow_of(book), known_by(book, values, row)), [asked])


def by_tables(book, values, row, asked):
    """Likewise by carrying tables forward."""
    return share_along(book, values, row, asked=asked)


def by_worths(book, values, row, asked):
    """Likewise by asking backward."""
    return worths_of(book, values, row, asked=asked)[0][()]


def by_machine(book, values, row, asked):
    """Likewise by running packed rows on the machine."""
    return run_code(packed(book, flow_of(book, asked=asked)), values, row)


ENGINES = {"ways": by_ways, "tables": by_tables, "worths": by_worths, "machine": by_machine}


def asked_at(conditions, place):
    """What all conditions at a place ask together."""
    return all_so([expression for expression, at in conditions if at == place])


def product_of_all(first, shares):
    """The product of a share and all of a list."""
    for share in shares:
        first = product_of(first, share)
    return first


def look_by_rows(book, rows, ask, at):
    """Refuses an ask at a row that isn't there, then one that isn't let by."""
    if at is not None and not is_there(at, list(range(len(rows)))):
        raise NoRow(at)
    look_ask(book, ask, at_row=at is not None)


def by_engine(word, book, rows, ask, *, conditions=(), at=None):
    """The share of an ask by rows and conditions, reckoned by the engine of this word."""
    if word not in ENGINES:
        raise NoEngine(word)
    look_by_rows(book, rows, ask, at)
    engine = ENGINES[word]
    prior = prior_of(book)
    met = so = NONE
    for values in prior:
        known = known_by(book, values, ())
        if not is_so(asked_at(conditions, None), known):
            continue
        shares = [engine(book, values, row, asked_at(conditions, k)) for k, row in enumerate(rows)]
        met = sum_of(met, product_of_all(prior[values], shares))
        if at is not None:
            shares[at] = engine(book, values, rows[at], asked_at([*conditions, (ask, at)], at))
        elif not is_so(ask, known):
            continue
        so = sum_of(so, product_of_all(prior[values], shares))
    if met == NONE:
        raise NoWays()
    return quotient_of(so, met)
