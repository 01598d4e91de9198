"""Going along a flow: what is known, one row on, and the states that come to each row."""

from chancetongue.expressions import is_so, value_of
from chancetongue.flows import flow_of, kept_names, live_at
from chancetongue.shares import ONE, share_of, sum_of


def known_by(book, values, row):
    """A dict from the names of the unknowns and fields to their numbers."""
    return dict(zip(kept_names(book), (*values, *row)))


def add_share(table, key, share):
    """Adds a share to what a table has of a key."""
    table[key] = sum_of(table[key], share) if key in table else share


def ways_on(alts, known):
    """The ways on of a draw: a list of (share, value), one for each alternative of a weight."""
    weights = [value_of(weight, known) for weight, value in alts]
    whole = sum(weights)
    return [
        (share_of(weight, lower=whole), value_of(value, known))
        for weight, (own, value) in zip(weights, alts) if weight != 0
    ]


def one_on(row, known):
    """What comes of a flow's row: a list of (share, number of the next row, what is known there)."""
    kind = row[0]
    if kind == "draw":
        return [(share, row[3], {**known, row[1]: value}) for share, value in ways_on(row[2], known)]
    if kind == "set":
        return [(ONE, row[3], {**known, row[1]: value_of(row[2], known)})]
    if kind == "end":
        return []
    so = is_so(row[1], known)
    if kind == "see":
        return [(ONE, row[2], known)] if so else []
    return [(ONE, row[2] if so else row[3], known)]


def moves_of(book, values, row, asked):
    """For each row of the flow a dict from the states that come there, rising, to what comes of each.

    That is a list of (share, number of the next row, state there). What is so at the end goes on to the row beyond the
    last one, in the empty state, so that the end isn't a case of its own for those who go along.
    """
    flow = flow_of(book, asked=asked)
    live = live_at(book, flow)
    live.append(())
    kept = known_by(book, values, row)
    coming = [{} for names in live]
    coming[0][()] = True
    moves = []
    for r in range(len(flow)):
        states = sorted(coming[r])
        moves.append({state: moves_from(flow, r, live, known_in(kept, live[r], state)) for state in states})
        for state in states:
            for share, following, there in moves[r][state]:
                coming[following][there] = True
    return moves


def known_in(kept, names, state):
    """What is known in a state of the locals of these names."""
    known = dict(kept)
    for name, number in zip(names, state):
        known[name] = number
    return known


def moves_from(flow, r, live, known):
    """What comes of a row where this is known: a list of (share, number of the next row, state there)."""
    if flow[r][0] == "end":
        return [(ONE, len(flow), ())] if is_so(flow[r][1], known) else []
    return [
        (share, following, tuple([there[name] for name in live[following]]))
        for share, following, there in one_on(flow[r], known)
    ]
