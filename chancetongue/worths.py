"""Worths backward: what is still to come of each state, cuts of a flow, and worths looked at."""

from chancetongue.flows import ALWAYS
from chancetongue.going import add_share, moves_of
from chancetongue.shares import NONE, ONE, product_of, sum_of
from chancetongue.tables import filled


def worth_on(moves, worths):
    """The worth of a state by what comes of it, one row on."""
    worth = NONE
    for share, following, there in moves:
        worth = sum_of(worth, product_of(share, worths[following][there]))
    return worth


def worths_of(book, values, row, *, asked=ALWAYS):
    """For each row of the flow a dict from the states that come there, rising, to their worths."""
    moves = moves_of(book, values, row, asked)
    worths = [{} for states in moves]
    # What is so goes on to the row beyond the end, where nothing is lost any more.
    worths.append({(): ONE})
    for r in range(len(moves) - 1, -1, -1):
        worths[r] = {state: worth_on(moves[r][state], worths) for state in moves[r]}
    return worths[:-1]


def cut_at(book, values, row, r, *, asked=ALWAYS):
    """A dict from all (row, state) from row r on into which ways come from rows ahead of r to the shares of these."""
    if r == 0:
        return {(0, ()): ONE}
    moves = moves_of(book, values, row, asked)
    tables = filled(moves)
    found = {}
    for ahead in range(r):
        for state in moves[ahead]:
            for share, following, there in moves[ahead][state]:
                if following >= r:
                    add_share(found, (following, there), product_of(tables[ahead][state], share))
    return {place: found[place] for place in sorted(found)}


def worths_hold(book, values, row, some, *, asked=ALWAYS):
    """Whether a list of dicts from states to shares is that of the worths."""
    moves = moves_of(book, values, row, asked)
    if len(some) != len(moves):
        return False
    if not all([set(some[r]) == set(states) for r, states in enumerate(moves)]):
        return False
    further = [*some, {(): ONE}]
    # From the end backward, so that only shares that were found right are reckoned with.
    for r in range(len(moves) - 1, -1, -1):
        if not all([some[r][state] == worth_on(moves[r][state], further) for state in moves[r]]):
            return False
    return True
