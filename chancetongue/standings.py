"""What stands in a case: a book, rows and conditions by their numbers, and the tree of the rows' leaves."""

from chancetongue.errors import NoRow
from chancetongue.flows import all_so
from chancetongue.looking import look_ask
from chancetongue.tables import share_along
from chancetongue.trees import Tree
from chancetongue.ways import prior_of


class Standing:
    """What stands between two deeds. A deed changes a twin of it, so that what stood can be kept to come back to."""

    def __init__(self, own_book, prior):
        self.own_book = own_book
        self.prior = prior
        self.row_by = {}
        self.condition_by = {}
        self.many_set = 0
        self.tree = Tree(list(prior))

    def twin(self):
        """Another one with the same in it; what is done to one changes nothing in the other."""
        other = Standing(self.own_book, self.prior)
        other.row_by = dict(self.row_by)
        other.condition_by = dict(self.condition_by)
        other.many_set = self.many_set
        other.tree = self.tree.twin()
        return other


def begun(book):
    """What stands of a book ahead of all deeds."""
    return Standing(book, prior_of(book))


def is_there(number, numbers):
    """Whether a thing is a number among these; truths are none, though Python takes them for 0 and 1."""
    return isinstance(number, int) and not isinstance(number, bool) and number in numbers


def look_row(standing, number):
    """Refuses a number of which there is no row."""
    if not is_there(number, standing.row_by):
        raise NoRow(number)


def look_asked(standing, asks, at):
    """Refuses asks, of the whole where at is None: first a row that isn't there, then the first that isn't let by."""
    if at is not None:
        look_row(standing, at)
    for ask in asks:
        look_ask(standing.own_book, ask, at_row=at is not None)


def conditions_at(standing, at):
    """The expressions of all conditions at a row, or of the whole where at is None."""
    return [expression for expression, place in standing.condition_by.values() if place == at]


def data_of(standing):
    """All data in order: rows, then conditions."""
    rows = [("row", number) for number in standing.row_by]
    return rows + [("given", number) for number in standing.condition_by]


def leaf_by(standing, number, wanted):
    """For each values of the prior the share of all ways of a row in which all that is wanted is so at the end."""
    row = standing.row_by[number]
    asked = all_so(wanted)
    return {values: share_along(standing.own_book, values, row, asked=asked) for values in standing.prior}
