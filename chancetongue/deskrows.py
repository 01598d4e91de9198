"""Rows that a desk is told, read word by word; Unsaid where one is none of them."""

from chancetongue.errors import Unsaid
from chancetongue.exprtexts import MOST_FIGURES
from chancetongue.figures import are_figures


def number_in(word):
    """The number of a word."""
    if not are_figures(word, most=MOST_FIGURES):
        raise Unsaid()
    return int(word)


def text_in(words):
    """The text of words, which has signs."""
    text = " ".join(words)
    if text == "":
        raise Unsaid()
    return text


def read_none(words):
    """No words at all. Told by each of these readers is a tuple of what stands behind a row's first word."""
    if len(words) > 0:
        raise Unsaid()
    return ()


def read_text(words):
    """A text alone."""
    return (text_in(words),)


def read_number(words):
    """A number alone."""
    if len(words) != 1:
        raise Unsaid()
    return (number_in(words[0]),)


def read_numbers(words):
    """The numbers of a row."""
    return (tuple([number_in(word) for word in words]),)


def read_change(words):
    """A number, and the numbers of a row."""
    return read_number(words[:1]) + read_numbers(words[1:])


def read_placed(words):
    """A text, and the number behind at where that is the last word but one, else None."""
    if len(words) >= 2 and words[-2] == "at":
        return (text_in(words[:-2]), number_in(words[-1]))
    return (text_in(words), None)


def read_asked(words):
    """As read_placed, and the text of all behind the first word given, None where there is none."""
    if "given" not in words:
        return read_placed(words) + (None,)
    place = words.index("given")
    return read_placed(words[:place]) + (text_in(words[place + 1:]),)


READERS = {
    "book": read_text, "put": read_numbers, "change": read_change, "take": read_number, "drop": read_number,
    "set": read_placed, "back": read_none, "ask": read_asked, "mean": read_text, "spread": read_text,
    "why": read_text, "core": read_none,
}


def read_said(row):
    """The first word of a row, and a tuple of what stands behind it."""
    word, *words = row.split(" ")
    if "\n" in row or word not in READERS:
        raise Unsaid()
    reader = READERS[word]
    return word, reader(words)
