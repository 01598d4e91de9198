"""Splits: what each datum brought to an answer."""

from chancetongue.answers import answer_in
from chancetongue.deeds import done
from chancetongue.flows import ALWAYS
from chancetongue.shares import NONE, quotient_of
from chancetongue.standings import begun, data_of
from chancetongue.weighing import added_up, met_and_so, weighed


def deeds_in_order(standing, at):
    """A list of (datum, deed): the row asked at first, then all other data in order.

    These deeds make the same of a new case, in which the rows have other numbers.
    """
    data = data_of(standing)
    if at is not None:
        data = [("row", at)] + [datum for datum in data if datum != ("row", at)]
    places = {None: None}
    found = []
    for datum in data:
        word, number = datum
        if word == "row":
            places[number] = len(found)
            found.append((datum, ("put", standing.row_by[number])))
        else:
            expression, place = standing.condition_by[number]
            found.append((datum, ("set", expression, places[place])))
    return found


def shares_by(standing, ask, at):
    """The shares of all ways that meet what stands, and of those in which the ask is so."""
    return met_and_so(added_up(weighed(standing, ask, at)))


def split_of(case, ask, *, at=None):
    """The first share of an ask, and for each datum (datum, up, down), by which that becomes the answer."""
    answer_in(case.standing, ask, at, ALWAYS)
    deeds = deeds_in_order(case.standing, at)
    standing = begun(case.standing.own_book)
    place = None
    if at is not None:
        standing = done(standing, deeds.pop(0)[1])[1]
        place = 0
    met, so = shares_by(standing, ask, place)
    first = quotient_of(so, met)
    steps = []
    for datum, deed in deeds:
        if so == NONE:
            break
        standing = done(standing, deed)[1]
        met_ahead, so_ahead = met, so
        met, so = shares_by(standing, ask, place)
        steps.append((datum, quotient_of(so, so_ahead), quotient_of(met, met_ahead)))
    return (first, tuple(steps))


def split_holds(case, ask, some, *, at=None):
    """Whether a tuple is the split of an ask."""
    return some == split_of(case, ask, at=at)
