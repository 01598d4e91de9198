"""Ways: of the unknowns, of a row and of the whole, gone through one by one."""

from chancetongue.errors import TooMany
from chancetongue.expressions import is_so
from chancetongue.flows import flow_of
from chancetongue.going import add_share, known_by, one_on, ways_on
from chancetongue.shares import NONE, ONE, product_of, sum_of

MOST = 2000


def ways_of_unknowns(book):
    """All ways of the unknowns: a list of (share, values)."""
    names = [name for name, alts in book[0]]
    ways = [(ONE, ())]
    for name, alts in book[0]:
        ways = [
            (product_of(share, part), (*values, value))
            for share, values in ways
            for part, value in ways_on(alts, dict(zip(names, values)))
        ]
    return ways


def prior_of(book):
    """A dict from all values of the unknowns that can be, rising, to their shares."""
    prior = {}
    for share, values in ways_of_unknowns(book):
        add_share(prior, values, share)
    return {values: prior[values] for values in sorted(prior)}


def ended_ways(flow, known, *, most=None):
    """All ways along a flow that end: a list of (share, what is known at the end); TooMany beyond most."""
    ended = []
    waiting = [(ONE, 0, known)]
    while waiting:
        share, r, now = waiting.pop()
        if flow[r][0] == "end":
            ended.append((share, now))
        if most is not None and len(ended) > most:
            raise TooMany(most)
        further = [(product_of(share, part), following, there) for part, following, there in one_on(flow[r], now)]
        waiting.extend(further[::-1])
    return ended


def ways_of_row(book, values, row, *, most=MOST):
    """All ways of a row that end: a list of (share, locals)."""
    kept = known_by(book, values, row)
    return [
        (share, {name: known[name] for name in known if name not in kept})
        for share, known in ended_ways(flow_of(book), kept, most=most)
    ]


def share_so(ended, wanted):
    """The sum of the shares of ended ways in which all that is wanted is so."""
    found = NONE
    for share, known in ended:
        if all([is_so(expression, known) for expression in wanted]):
            found = sum_of(found, share)
    return found


def share_meeting(values_known, rows_ended, wanted):
    """The share, by values of the unknowns, of all ways of the rows that meet what is wanted, a list of (E, at)."""
    if not all([is_so(expression, values_known) for expression, at in wanted if at is None]):
        return NONE
    found = ONE
    for number, ended in enumerate(rows_ended):
        found = product_of(found, share_so(ended, [expression for expression, at in wanted if at == number]))
    return found


def ways_of_all(book, rows, ask, *, conditions=(), at=None, most=MOST):
    """The shares of all ways of the whole that meet all conditions, and of those in which the ask is so, too."""
    flow = flow_of(book)
    many = 0
    met = so = NONE
    for share, values in ways_of_unknowns(book):
        rows_ended = [ended_ways(flow, known_by(book, values, row)) for row in rows]
        many += product_of_lengths(rows_ended)
        if many > most:
            raise TooMany(most)
        known = known_by(book, values, ())
        met = sum_of(met, product_of(share, share_meeting(known, rows_ended, conditions)))
        so = sum_of(so, product_of(share, share_meeting(known, rows_ended, [*conditions, (ask, at)])))
    return (met, so)


def product_of_lengths(lists):
    """In how many ways one of each list can be taken."""
    many = 1
    for one in lists:
        many *= len(one)
    return many
