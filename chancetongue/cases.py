"""Cases: a book with rows and conditions that change deed by deed, each of which remakes what hangs on it alone."""

from chancetongue.deeds import done, done_in_order
from chancetongue.errors import Broken
from chancetongue.standings import begun, look_row


class Case:
    """A book with rows and conditions."""

    def __init__(self, book):
        self.standing = begun(book)
        # What stood ahead of the last deed, and ahead of each that can be taken back.
        self.ahead = self.standing
        self.history = []
        self.many_deeds = 0
        self.parts = []
        self.many_reckoned = 0
        self.log_rows = []
        self.opened = True

    def book(self):
        """The book."""
        return self.standing.own_book

    def put(self, row):
        """Puts a row; told is its number."""
        return self.do(("put", row))

    def change(self, number, row):
        """Changes a row."""
        self.do(("change", number, row))

    def take(self, number):
        """Takes a row, with all conditions at it."""
        self.do(("take", number))

    def set_condition(self, ask, *, at=None):
        """Sets a condition, of the whole or at a row; told is its number."""
        return self.do(("set", ask, at))

    def drop(self, number):
        """Drops a condition."""
        self.do(("drop", number))

    def back(self):
        """Takes the last deed that stands back; False where there is none."""
        if len(self.history) == 0:
            return False
        self.begin_deed()
        self.standing = self.history.pop()
        self.log_rows.append(("back",))
        return True

    def several(self, deeds, *, stay=False):
        """Does deeds one behind the other; Broken where one is refused, then those ahead stay where that is told."""
        self.opened = False
        self.log_rows.append(("begin", len(deeds)))
        stand = 0
        try:
            steps, broken = done_in_order(self.standing, deeds)
            if broken is None or stay:
                self.keep(steps)
                stand = len(steps)
        finally:
            self.log_rows.append(("end", stand))
            self.opened = True
        if broken is not None:
            raise Broken(broken)
        return [told for deed, behind, told, parts in steps]

    def do(self, deed):
        """Does one deed; told is what it tells."""
        step = done(self.standing, deed)
        self.keep([step])
        return step[2]

    def begin_deed(self):
        """Begins a deed that will be done: what it is compared with is what stands now."""
        self.ahead = self.standing
        self.many_deeds += 1
        self.parts = []

    def keep(self, steps):
        """Takes on what was done, as one deed; for back each step is one."""
        self.begin_deed()
        for deed, behind, told, parts in steps:
            self.history.append(self.standing)
            self.standing = behind
            self.log_rows.append(deed)
            self.parts.extend(parts)
            rows = [part for part in parts if part[0] == "row"]
            self.many_reckoned += len(rows) * len(behind.prior)

    def remade(self):
        """The parts that the last deed remade."""
        return list(self.parts)

    def reckoned(self):
        """How many shares were reckoned so far."""
        return self.many_reckoned

    def rows(self):
        """A dict from numbers, rising, to the rows."""
        return dict(self.standing.row_by)

    def conditions(self):
        """A dict from numbers, rising, to the conditions, (expression, at)."""
        return dict(self.standing.condition_by)

    def nodes(self):
        """A dict from (level, k), rising, to the nodes above the rows' leaves."""
        return self.standing.tree.nodes()

    def leaf(self, number):
        """For each values of the prior the share of a row's ways in which all conditions at it are so."""
        look_row(self.standing, number)
        return self.standing.tree.leaf_at(number)

    def log(self):
        """All that was done, in order."""
        return list(self.log_rows)

    def is_open(self):
        """Whether deeds can be done, that is, whether none of several is being done."""
        return self.opened

    def __len__(self):
        return len(self.standing.row_by)
