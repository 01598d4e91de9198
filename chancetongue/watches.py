"""Watches: asks that are kept, whose answers are told anew behind each deed."""

from chancetongue.answers import answer_in
from chancetongue.cases import Case
from chancetongue.errors import NoRow, NoWays
from chancetongue.flows import ALWAYS
from chancetongue.standings import look_asked


def answer_if_any(standing, ask, at, given):
    """The answer by what stands, None where the row is gone or no way is left."""
    try:
        return answer_in(standing, ask, at, given)
    except (NoRow, NoWays):
        return None


class Watched(Case):
    """A case with watches."""

    def __init__(self, book):
        Case.__init__(self, book)
        self.watch_rows = []

    def watch(self, ask, *, at=None, given=ALWAYS):
        """Keeps an ask; told is its number."""
        look_asked(self.standing, [ask, given], at)
        self.watch_rows.append((self.many_deeds, ask, at, given))
        return len(self.watch_rows) - 1

    def watches(self):
        """A dict from the watches' numbers, rising, to their answers."""
        return {
            number: answer_if_any(self.standing, ask, at, given)
            for number, (since, ask, at, given) in enumerate(self.watch_rows)
        }

    def news(self):
        """The numbers, rising, of the watches that the last deed found and whose answers are others since."""
        return [
            number for number, (since, ask, at, given) in enumerate(self.watch_rows)
            if since < self.many_deeds
            and answer_if_any(self.ahead, ask, at, given) != answer_if_any(self.standing, ask, at, given)
        ]
