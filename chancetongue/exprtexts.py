"""Expressions as texts, and read from them."""

from chancetongue.errors import NoText
from chancetongue.expressions import SIGNS, inner_of, is_name
from chancetongue.figures import are_figures

DEEPEST = 30
MOST_FIGURES = 3


def show_expression(expression):
    """The one text of an expression."""
    kind = expression[0]
    if kind == "num":
        return str(expression[1])
    if kind == "name":
        return expression[1]
    head = expression[1] if kind == "op" else kind
    inner = [show_expression(part) for part in inner_of(expression)]
    return " ".join(["(", head, *inner, ")"])


def read_expression(text):
    """The expression of a text; NoText(at) from the first word on by which it can't be one."""
    words = text.split(" ")
    expression, behind = expression_in(words, 0)
    if behind < len(words):
        raise NoText(behind)
    return expression


def expression_in(words, at):
    """The expression that begins at a word, and the number of the word behind it."""
    return part_in(words, at, 0)


def part_in(words, at, within):
    """Likewise, of one that stands within so many others."""
    if at == len(words):
        raise NoText(at)
    word = words[at]
    if word == "(" and within < DEEPEST:
        return bracket_in(words, at + 1, within + 1)
    if are_figures(word, most=MOST_FIGURES):
        return ("num", int(word)), at + 1
    if is_name(word):
        return ("name", word), at + 1
    raise NoText(at)


def many_behind(word):
    """How many expressions stand behind an opening bracket's word, 0 where that can't stand there."""
    if word in SIGNS:
        return 2
    if word == "not":
        return 1
    if word == "if":
        return 3
    return 0


def bracket_in(words, at, within):
    """The expression whose opening bracket stands right ahead, and the number of the word behind its closing one."""
    if at == len(words) or many_behind(words[at]) == 0:
        raise NoText(at)
    word = words[at]
    made = ["op", word] if word in SIGNS else [word]
    at += 1
    for each in range(many_behind(word)):
        part, at = part_in(words, at, within)
        made.append(part)
    return tuple(made), behind_word(words, at, ")")


def behind_word(words, at, wanted):
    """The number of the word behind the wanted one, which must stand at its place."""
    if at == len(words) or words[at] != wanted:
        raise NoText(at)
    return at + 1
