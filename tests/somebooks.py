"""Books that several tests use, and histories of deeds."""

from chancetongue.booktexts import read_book
from chancetongue.exprtexts import read_expression
from chancetongue.looking import known_behind, look
from tests.making import few_test, few_ways_book, some_row

BAG_TEXT = """unknown bag from 1 : 0 , 2 : 1
fields ball
if bag
draw seen from 1 : 0 , 3 : 1
else
draw seen from 1 : 0 , 1 : 1
end
draw kind from 1 : 0 , 1 : 1
see ( = seen ball )"""


def book_of(*rows):
    book = read_book("\n".join(rows))
    look(book)
    return book


def ex(text):
    return read_expression(text)


BAG = book_of(*BAG_TEXT.split("\n"))
# No values of the unknowns can be.
EMPTY = book_of("unknown a from 0 : 1 , 0 : 2", "fields f", "draw x from 1 : 0 , 1 : 1", "see ( = x f )")
# Neither unknowns nor fields.
BARE = book_of("fields", "draw x from 1 : 0 , 1 : 1 , 2 : 2")
# A row bars what it doesn't have.
PICK = book_of(
    "unknown a from 1 : 0 , 1 : 1 , 1 : 2", "unknown b from 1 : 0 , 3 : 1", "fields f", "draw x from 1 : a , 1 : b",
    "draw y from 1 : 0 , 1 : 1", "see ( not ( = a f ) )",
)


def known_names(book, at):
    unknowns = tuple(x for x, alts in book[0])
    return unknowns if at is None else unknowns + tuple(book[1]) + known_behind(book)


def ask_at(source, book, at):
    return few_test(source, known_names(book, at))


def place_of(source, rows):
    return source.choice([None, *rows]) if source.randrange(3) else None


def good_deed(source, book, now):
    """A deed that isn't refused where this stands: (rows, conditions, ..)."""
    rows, conditions = list(now[0]), list(now[1])
    kind = source.choice(("put", "put", "put", "change", "take", "set", "set", "set", "drop"))
    if kind == "change" and rows:
        return ("change", source.choice(rows), some_row(source, book))
    if kind == "take" and rows:
        return ("take", source.choice(rows))
    if kind == "set":
        at = place_of(source, rows)
        return ("set", ask_at(source, book, at), at)
    if kind == "drop" and conditions:
        return ("drop", source.choice(conditions))
    return ("put", some_row(source, book))


def bad_deed(source, book, now):
    """A deed that is refused."""
    rows, conditions = now[:2]
    missing = source.choice([-1, 99, now[2], *[k for k in range(now[2]) if k not in rows]])
    lost = source.choice([-1, 99, now[3], *[k for k in range(now[3]) if k not in conditions]])
    bad = source.choice((None, "0", (0,) * (len(book[1]) + 1), [0], (True,) * max(1, len(book[1])), 5))
    ask = ("op", "+", ("num", 1), ("name", "zz"))
    return source.choice((
        ("put", bad), ("change", missing, some_row(source, book)), ("change", missing, bad), ("take", missing),
        ("set", ask, None), ("set", ("num", 1), missing), ("set", ask, missing), ("drop", lost),
        *[("change", number, bad) for number in rows], *[("set", ask, number) for number in rows],
    ))


def within_bounds(now, many_values):
    """Whether a further row and a further condition are within the document's bounds."""
    return now[2] < 16 and now[3] < 10 and (now[2] + 1) * many_values <= 200


def small_book(source, most=40):
    return few_ways_book(source, most=most, rows=40)[0]
