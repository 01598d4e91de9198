"""Cores: where no way is left, data that contradict one another, with a paper that says which bars what."""

from chancetongue.expressions import is_so
from chancetongue.going import known_by
from chancetongue.shares import NONE
from chancetongue.standings import conditions_at, data_of, leaf_by


def bearer_of(standing, datum):
    """The datum that bars where this one does: of a condition at a row that row, else the datum itself."""
    word, number = datum
    if word == "given" and standing.condition_by[number][1] is not None:
        return ("row", standing.condition_by[number][1])
    return datum


def leaf_in(standing, number, core):
    """A row's shares by each values of the prior, with those of its conditions that are in a core."""
    kept = standing.condition_by
    wanted = [kept[k][0] for k in kept if kept[k][1] == number and ("given", k) in core]
    if len(wanted) == len(conditions_at(standing, number)):
        return standing.tree.leaf_at(number)
    return leaf_by(standing, number, wanted)


def barred_by(standing, datum, core):
    """The values of the prior that a row, with its conditions in a core, or a condition of the whole bars."""
    word, number = datum
    if word == "row":
        leaf = leaf_in(standing, number, core)
        return [values for values in leaf if leaf[values] == NONE]
    expression = standing.condition_by[number][0]
    return [values for values in standing.prior if not is_so(expression, known_by(standing.own_book, values, ()))]


def bars_of(standing, core):
    """A dict from each datum of a core that bars by itself to the values that it bars."""
    return {datum: barred_by(standing, datum, core) for datum in core if bearer_of(standing, datum) == datum}


def without_datum(standing, core, datum):
    """A core without a datum; a row goes with its conditions."""
    return [other for other in core if other != datum and bearer_of(standing, other) != datum]


def bars_without(standing, bars, rest, datum):
    """The bars of the rest that a core has without a datum, by the bars of the whole core."""
    found = {other: bars[other] for other in bars if other in rest}
    bearer = bearer_of(standing, datum)
    if bearer in rest:
        found[bearer] = barred_by(standing, bearer, rest)
    return found


def is_all_barred(standing, bars):
    """Whether all values of the prior are barred, so that no way is left."""
    return all([any([values in bars[datum] for datum in bars]) for values in standing.prior])


def core_of(case):
    """A core and its paper, None where ways are left."""
    standing = case.standing
    core = data_of(standing)
    bars = bars_of(standing, core)
    if not is_all_barred(standing, bars):
        return None
    # What is needed now is needed later, too, where still more is left out: so each datum is tried once.
    for datum in data_of(standing):
        if datum in core:
            rest = without_datum(standing, core, datum)
            fewer = bars_without(standing, bars, rest, datum)
            if is_all_barred(standing, fewer):
                core, bars = rest, fewer
    paper = [(values, [datum for datum in bars if values in bars[datum]][0]) for values in standing.prior]
    return (tuple(core), tuple(paper))


def are_data(standing, some):
    """Whether a tuple has data of a case, in order, none twice, no condition at a row without that row."""
    if some != tuple([datum for datum in data_of(standing) if datum in some]):
        return False
    return all([bearer_of(standing, datum) in some for datum in some])


def core_holds(case, some, paper):
    """Whether these are a core and its paper."""
    standing = case.standing
    if not are_data(standing, some):
        return False
    bars = bars_of(standing, some)
    for datum in some:
        if is_all_barred(standing, bars_without(standing, bars, without_datum(standing, some, datum), datum)):
            return False
    # Where there is a paper, all values of the prior are barred, so that no way is left.
    return is_paper(standing, bars, paper)


def is_paper(standing, bars, paper):
    """Whether a paper names, for each values of the prior, rising, a datum that bars them."""
    if len(paper) != len(standing.prior):
        return False
    return all([
        entry in [(values, datum) for datum in bars if values in bars[datum]]
        for entry, values in zip(paper, standing.prior)
    ])
