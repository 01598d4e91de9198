"""The refusals: each keeps what it was made of in fields of these names."""


class ChanceError(ValueError):
    """What most refusals stand right under."""


class NoText(ChanceError):
    """A text that can't be read, from a place in it on."""

    def __init__(self, at):
        self.at = at


class NoBook(ChanceError):
    """A book that isn't let by: what is amiss, and where."""

    def __init__(self, word, place):
        self.word = word
        self.place = place


class NoAsk(ChanceError):
    """An ask or a condition that isn't let by, by one of its parts."""

    def __init__(self, at):
        self.at = at


class TooMany(ChanceError):
    """More ways than were allowed."""

    def __init__(self, most):
        self.most = most


class NotSuch(ChanceError):
    """What was to be a row and isn't one."""


class Broken(ChanceError):
    """One of several deeds that was refused."""

    def __init__(self, at):
        self.at = at


class NoEngine(ChanceError):
    """A word that names no engine."""

    def __init__(self, word):
        self.word = word


class NoDatum(ChanceError):
    """A datum that isn't there, or can't be left out."""

    def __init__(self, datum):
        self.datum = datum


class Unsaid(ChanceError):
    """What a desk doesn't understand."""


class NoWays(ChanceError):
    """No way is left."""


class Nought(ZeroDivisionError):
    """A share over nought."""


class NoRow(IndexError):
    """A row that isn't there."""

    def __init__(self, number):
        self.number = number


class NoCondition(LookupError):
    """A condition that isn't there."""

    def __init__(self, number):
        self.number = number
