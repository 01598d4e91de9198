"""What an expression can be by all that stands in a case, with the shares of the ways in which it is so."""

from chancetongue.expressions import is_so, value_of
from chancetongue.flows import ALWAYS, all_so, live_at
from chancetongue.going import add_share, known_by, known_in
from chancetongue.shares import NONE, ONE, product_of, sum_of
from chancetongue.standings import conditions_at
from chancetongue.tables import tables_of


def all_are_so(expressions, known):
    """Whether all of these are so."""
    return all([is_so(expression, known) for expression in expressions])


def sum_of_all(shares):
    """The sum of a list of shares."""
    found = NONE
    for share in shares:
        found = sum_of(found, share)
    return found


def ended_values(book, values, row, expression, wanted):
    """A dict from what an expression is at the end of a row's ways, where all that is wanted is so, to their shares."""
    # All these are asked at the end, so that all their names are live there.
    asked = all_so([expression, *wanted])
    names = live_at(book, [("end", asked)])[0]
    kept = known_by(book, values, row)
    ends = tables_of(book, values, row, asked=asked)[-1]
    found = {}
    for state in ends:
        known = known_in(kept, names, state)
        if all_are_so(wanted, known):
            add_share(found, value_of(expression, known), ends[state])
    return found


def values_by(standing, values, expression, at, given):
    """A dict from what an expression can be by values of the unknowns, where what is given is so, to shares.

    These are of the row asked at, and where that is None of the whole: all other rows are left out.
    """
    if at is not None:
        wanted = conditions_at(standing, at) + [given]
        return ended_values(standing.own_book, values, standing.row_by[at], expression, wanted)
    known = known_by(standing.own_book, values, ())
    return {value_of(expression, known): ONE} if is_so(given, known) else {}


def weighed(standing, expression, at, given=ALWAYS):
    """For each values of the prior, rising, a dict from what an expression can be to the shares of all ways of it.

    These are the ways of the whole that meet all rows and conditions, and in which what is given is so.
    """
    rest = standing.tree.product() if at is None else standing.tree.without(at)
    wanted = conditions_at(standing, None)
    found = {}
    for values in standing.prior:
        weight = product_of(standing.prior[values], rest[values])
        found[values] = {}
        if weight != NONE and all_are_so(wanted, known_by(standing.own_book, values, ())):
            by_value = values_by(standing, values, expression, at, given)
            found[values] = {value: product_of(weight, by_value[value]) for value in by_value}
    return found


def added_up(tables):
    """One table, rising, of what all dicts have together that a dict as weighed has."""
    found = {}
    for values in tables:
        for value in tables[values]:
            add_share(found, value, tables[values][value])
    return {value: found[value] for value in sorted(found)}


def met_and_so(table):
    """The shares of all that a table has, and of what isn't 0."""
    met = sum_of_all([table[value] for value in table])
    return met, sum_of_all([table[value] for value in table if value != 0])
