"""Tables forward: the shares of the states that come to each row of a flow."""

from chancetongue.flows import ALWAYS
from chancetongue.going import add_share, moves_of
from chancetongue.shares import NONE, ONE, product_of


def filled(moves):
    """For each row, rising, and for the one beyond the end, a dict from the states that come there to their shares."""
    tables = [{} for states in moves]
    tables.append({})
    tables[0][()] = ONE
    for r, states in enumerate(moves):
        for state in states:
            for part, following, there in states[state]:
                add_share(tables[following], there, product_of(tables[r][state], part))
    rising = [{state: tables[r][state] for state in states} for r, states in enumerate(moves)]
    return [*rising, tables[-1]]


def tables_of(book, values, row, *, asked=ALWAYS):
    """For each row of the flow a dict from the states that come there, rising, to their shares."""
    return filled(moves_of(book, values, row, asked))[:-1]


def share_along(book, values, row, *, asked=ALWAYS):
    """The share of the flow: of all ways of the row that are so at the end."""
    return filled(moves_of(book, values, row, asked))[-1].get((), NONE)
