"""Answers of a case: how likely something is, all that is known being so."""

from chancetongue.deeds import done
from chancetongue.errors import NoDatum, NoWays
from chancetongue.flows import ALWAYS
from chancetongue.shares import NONE, product_of, quotient_of, share_of
from chancetongue.standings import data_of, look_asked
from chancetongue.weighing import added_up, met_and_so, sum_of_all, weighed


def weighed_where_let(standing, expression, at, given):
    """As weighed, and the share of all its ways; refused where an answer is."""
    look_asked(standing, [expression, given], at)
    tables = weighed(standing, expression, at, given)
    met, so = met_and_so(added_up(tables))
    if met == NONE:
        raise NoWays()
    return tables, met


def spread_in(standing, expression, at, given):
    """A dict from all values that an expression can have by what stands, rising, to their shares."""
    tables, met = weighed_where_let(standing, expression, at, given)
    table = added_up(tables)
    return {value: quotient_of(table[value], met) for value in table}


def answer_in(standing, ask, at, given):
    """The share of an ask by what stands."""
    met, so = met_and_so(spread_in(standing, ask, at, given))
    return so


def answer_of(case, ask, *, at=None, given=ALWAYS):
    """The share of an ask, of the whole or at a row, by a given one."""
    return answer_in(case.standing, ask, at, given)


def spread_of(case, expression, *, at=None, given=ALWAYS):
    """A dict from all values that an expression can have, rising, to their shares."""
    return spread_in(case.standing, expression, at, given)


def mean_of(case, expression, *, at=None, given=ALWAYS):
    """The sum of each value that an expression can have times its share."""
    spread = spread_in(case.standing, expression, at, given)
    return sum_of_all([product_of(share_of(value), spread[value]) for value in spread])


def mixture_of(case, ask, *, at=None):
    """A list of (values, their share, how much the ask is so by them), rising, for all values that can still be."""
    tables, whole = weighed_where_let(case.standing, ask, at, ALWAYS)
    found = []
    for values in tables:
        met, so = met_and_so(tables[values])
        if met != NONE:
            found.append((values, quotient_of(met, whole), quotient_of(so, met)))
    return found


def deed_without(standing, datum, at):
    """The deed that leaves a datum out; NoDatum where it isn't there, or is the row asked at."""
    if datum not in data_of(standing) or isinstance(datum[1], bool) or datum == ("row", at):
        raise NoDatum(datum)
    word, number = datum
    return ("take", number) if word == "row" else ("drop", number)


def answer_without(case, datum, ask, *, at=None):
    """The answer as if one datum weren't there, a row without its conditions, too."""
    standing = case.standing
    look_asked(standing, [], at)
    deed, rest, told, parts = done(standing, deed_without(standing, datum, at))
    return answer_in(rest, ask, at, ALWAYS)
