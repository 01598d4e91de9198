"""The desk: a case that is told rows of words, and tells its answers as texts."""

from chancetongue.answers import answer_of, mean_of, spread_of
from chancetongue.booktexts import read_book
from chancetongue.cases import Case
from chancetongue.cores import core_of
from chancetongue.deskrows import read_said
from chancetongue.errors import Unsaid
from chancetongue.exprtexts import read_expression
from chancetongue.flows import ALWAYS
from chancetongue.looking import look
from chancetongue.shares import quotient_of, share_text
from chancetongue.splits import split_of


def joined_text(texts):
    """Texts parted by commas."""
    return " , ".join(texts)


def remade_text(case):
    """How many parts the last deed remade."""
    return f"remade {len(case.remade())}"


def say_put(case, row):
    """Puts a row. Told by each of these is the desk's answer."""
    number = case.put(row)
    return f"row {number}"


def say_change(case, number, row):
    """Changes a row."""
    case.change(number, row)
    return remade_text(case)


def say_take(case, number):
    """Takes a row."""
    case.take(number)
    return remade_text(case)


def say_drop(case, number):
    """Drops a condition."""
    case.drop(number)
    return remade_text(case)


def say_set(case, text, at):
    """Sets a condition."""
    number = case.set_condition(read_expression(text), at=at)
    return f"given {number}, {remade_text(case)}"


def say_back(case):
    """Takes the last deed back."""
    return "back" if case.back() else "nothing"


def say_ask(case, text, at, given_text):
    """The share of an ask."""
    ask = read_expression(text)
    given = ALWAYS if given_text is None else read_expression(given_text)
    return share_text(answer_of(case, ask, at=at, given=given))


def say_mean(case, text):
    """The mean of an expression."""
    return share_text(mean_of(case, read_expression(text)))


def say_spread(case, text):
    """The spread of an expression."""
    spread = spread_of(case, read_expression(text))
    return joined_text([f"{value} {share_text(spread[value])}" for value in spread])


def say_why(case, text):
    """The split of an ask."""
    first, steps = split_of(case, read_expression(text))
    brought = [f"{word} {number} {share_text(quotient_of(up, down))}" for (word, number), up, down in steps]
    return joined_text([share_text(first)] + brought)


def say_core(case):
    """The data that contradict one another."""
    found = core_of(case)
    if found is None:
        return "none"
    core, paper = found
    if len(core) == 0:
        return "empty"
    return joined_text([f"{word} {number}" for word, number in core])


SAYERS = {
    "put": say_put, "change": say_change, "take": say_take, "drop": say_drop, "set": say_set, "back": say_back,
    "ask": say_ask, "mean": say_mean, "spread": say_spread, "why": say_why, "core": say_core,
}


class Desk:
    """A desk with one case, none ahead of the first book."""

    def __init__(self):
        self.case = None

    def say(self, row):
        """What the desk answers to a row."""
        word, parts = read_said(row)
        if word == "book":
            return self.begin_case(parts[0])
        if self.case is None:
            raise Unsaid()
        sayer = SAYERS[word]
        return sayer(self.case, *parts)

    def begin_case(self, text):
        """Begins a new case of a book's text."""
        book = read_book(text.replace(" ; ", "\n"))
        look(book)
        self.case = Case(book)
        return f"{len(book[0])} unknowns, {len(book[1])} fields"
