"""Shares: fractions in lowest terms, as tuples (a, b)."""

from chancetongue.errors import NoText, Nought
from chancetongue.figures import are_figures, figures_of

ONE = (1, 1)
NONE = (0, 1)

MOST_READ = 400


def greatest_divisor(one, other):
    """The greatest divisor that two numbers from 0 on have in common."""
    while other != 0:
        one, other = other, one % other
    return one


def share_of(upper, *, lower=1):
    """The share of two whole numbers, in lowest terms."""
    if lower == 0:
        raise Nought()
    if lower < 0:
        upper, lower = -upper, -lower
    divisor = greatest_divisor(abs(upper), lower)
    return (upper // divisor, lower // divisor)


def sum_of(one, other):
    """The sum of two shares."""
    return share_of(one[0] * other[1] + other[0] * one[1], lower=one[1] * other[1])


def product_of(one, other):
    """The product of two shares."""
    return share_of(one[0] * other[0], lower=one[1] * other[1])


def quotient_of(one, other):
    """One share by another one; Nought by nought."""
    return share_of(one[0] * other[1], lower=one[1] * other[0])


def is_less(one, other):
    """Whether one share is less than the other."""
    return one[0] * other[1] < other[0] * one[1]


def share_text(one):
    """The one text of a share."""
    upper, lower = one
    text = figures_of(abs(upper))
    if upper < 0:
        text = "-" + text
    if lower != 1:
        text = text + "/" + figures_of(lower)
    return text


def read_share(text):
    """The share of a text; NoText(0) where no share has it."""
    minus = text.startswith("-")
    unsigned = text[1:] if minus else text
    above, stroke, below = unsigned.partition("/")
    if stroke == "":
        below = "1"
    if not are_figures(above, most=MOST_READ) or not are_figures(below, most=MOST_READ):
        raise NoText(0)
    if below == "0":
        raise NoText(0)
    upper = -int(above) if minus else int(above)
    found = share_of(upper, lower=int(below))
    # A share has one text: what is not in lowest terms, over 1 or minus nought shows as another one.
    if share_text(found) != text:
        raise NoText(0)
    return found
