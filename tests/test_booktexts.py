"""Point 9: books as texts."""

import inspect
import re
import unittest

from chancetongue import booktexts
from chancetongue.booktexts import book_text, read_book
from chancetongue.errors import NoText
from chancetongue.exprtexts import show_expression
from tests.making import WORDS, deep_expression, mutations, name, nested_book, num, op, some_book, source_of
from tests.test_exprtexts import first_wrong

TEXT = """unknown a from 1 : 0 , 2 : ( + 1 1 )
unknown b from a : a
fields f g
draw x from 1 : 1 , a : ( if b f g )
if ( < x f )
set y 1
times 3
see ( not y )
end
else
end
see ( = x 2 )"""
BOOK = (
    (
        ("a", ((num(1), num(0)), (num(2), op("+", num(1), num(1))))),
        ("b", ((name("a"), name("a")),)),
    ),
    ("f", "g"),
    (
        ("draw", "x", ((num(1), num(1)), (name("a"), ("if", name("b"), name("f"), name("g"))))),
        ("if", op("<", name("x"), name("f")), (
            ("set", "y", num(1)),
            ("times", 3, (("see", ("not", name("y"))),)),
        ), ()),
        ("see", op("=", name("x"), num(2))),
    ),
)
POOL = [
    "", " ", "fields", "fields f", "unknown z from 1 : 1", "draw z from 1 : 1", "set z 1", "see 1", "if 1", "else", "end",
    "times 1", "times 0", "times 9", "times 10", "times", "if", "see", "set z", "end ", " end", "else 1", "see  1", "times a",
]
WORD_POOL = ["", "(", ")", ":", ",", "from", "a", "1", "1000", "if", "end", "unknown", "fields", "+", "draw", "\t"]


def is_expression(text):
    return first_wrong(text.split(" ")) is None


def is_name(text):
    return bool(re.fullmatch("[a-z]{1,6}", text)) and text not in WORDS


def are_alts(text):
    for alternative in text.split(" , "):
        parts = alternative.split(" : ")
        if len(parts) != 2 or not all(is_expression(part) for part in parts):
            return False
    return True


def kind_of(row):
    """What a row is on its own, or none."""
    head, _, rest = row.partition(" ")
    drawn = re.fullmatch("([^ ]*) from (.*)", rest)
    if head in ("unknown", "draw") and drawn and is_name(drawn[1]) and are_alts(drawn[2]):
        return "unknown" if head == "unknown" else "plain"
    if head == "fields" and (row == head or all(is_name(word) for word in rest.split(" "))):
        return "fields"
    if head == "set" and is_name(rest.partition(" ")[0]) and is_expression(rest.partition(" ")[2]):
        return "plain"
    if head in ("see", "if") and is_expression(rest):
        return "plain" if head == "see" else "if"
    if re.fullmatch("times [0-9]", row):
        return "times"
    return row if row in ("else", "end") else "none"


def first_wrong_row(rows):
    """The number of the first row that can't stand there; None where they are a book."""
    stack = ["unknowns"]
    for at, row in enumerate(rows):
        kind, top = kind_of(row), stack[-1]
        if top == "unknowns" and kind == "fields":
            stack = ["body"]
        elif top == "unknowns" and kind != "unknown":
            return at
        elif top == "unknowns" or kind == "plain":
            continue
        elif kind in ("if", "times") and len(stack) <= 20:
            stack.append(kind)
        elif kind == "else" and top == "if":
            stack[-1] = "else"
        elif kind == "end" and top in ("else", "times"):
            stack.pop()
        else:
            return at
    return None if stack == ["body"] else len(rows)


class Shown(unittest.TestCase):
    def assert_both(self, book, text):
        self.assertEqual(book_text(book), text)
        self.assertEqual(read_book(text), book)

    def test_a_whole_one(self):
        self.assert_both(BOOK, TEXT)

    def test_the_least_one(self):
        self.assert_both(((), (), ()), "fields")

    def test_unknowns_and_fields(self):
        one = ((num(1), num(2)),)
        self.assert_both(((("a", one),), (), ()), "unknown a from 1 : 2\nfields")
        self.assert_both(((), ("f", "gg", "abcdef"), ()), "fields f gg abcdef")
        self.assert_both(
            ((("a", one * 2), ("b", one)), ("f",), ()), "unknown a from 1 : 2 , 1 : 2\nunknown b from 1 : 2\nfields f"
        )

    def test_each_statement(self):
        alts = ((num(1), name("a")), (("not", num(0)), num(7)), (num(0), num(999)))
        for statement, rows in (
            (("draw", "x", alts[:1]), ["draw x from 1 : a"]),
            (("draw", "x", alts), ["draw x from 1 : a , ( not 0 ) : 7 , 0 : 999"]),
            (("set", "x", op("*", name("x"), num(2))), ["set x ( * x 2 )"]),
            (("see", num(0)), ["see 0"]),
            (("if", name("x"), (), ()), ["if x", "else", "end"]),
            (("if", num(1), (("see", num(2)),), ()), ["if 1", "see 2", "else", "end"]),
            (("if", num(1), (), (("see", num(2)),)), ["if 1", "else", "see 2", "end"]),
            (("times", 0, ()), ["times 0", "end"]),
            (("times", 9, (("see", num(2)), ("see", num(3)))), ["times 9", "see 2", "see 3", "end"]),
        ):
            self.assert_both(((), (), (statement,)), "\n".join(["fields"] + rows))
            self.assert_both(((), (), (statement,) * 2), "\n".join(["fields"] + rows * 2))

    def test_what_is_not_let_by_has_a_text_too(self):
        one = ((name("lost"), num(2)),)
        self.assert_both(
            ((("a", one), ("a", one)), ("a", "f", "f"), (("set", "a", name("z")), ("times", 7, ()))),
            "unknown a from lost : 2\nunknown a from lost : 2\nfields a f f\nset a z\ntimes 7\nend",
        )

    def test_many_things(self):
        many = 60
        alts = tuple((num(k), num(k)) for k in range(many))
        book = (
            tuple((chr(97 + k % 26), alts) for k in range(many)), ("f", "g") * many,
            tuple(("draw", "x", alts) for k in range(many)) + (("if", num(1), (), ()), ("times", 3, ())) * many,
        )
        self.assertEqual(read_book(book_text(book)), book)

    def test_some(self):
        texts = {}
        for k in range(300):
            book = some_book(source_of(k))
            text = book_text(book)
            self.assertEqual(read_book(text), book)
            self.assertIsNone(first_wrong_row(text.split("\n")))
            self.assertEqual(texts.setdefault(text, book), book)

    def test_deep_expressions(self):
        deep = deep_expression(30)
        alts = ((deep, deep), (num(1), deep))
        book = ((("a", alts),), (), (("draw", "x", alts), ("set", "x", deep), ("see", deep), ("if", deep, (), ())))
        self.assertEqual(read_book(book_text(book)), book)

    def test_arguments(self):
        self.assertEqual(str(inspect.signature(booktexts.book_text)), "(book)")
        self.assertEqual(str(inspect.signature(booktexts.read_book)), "(text)")
        self.assertEqual(read_book(text=book_text(book=BOOK)), BOOK)


class Within(unittest.TestCase):
    def refused_at(self, text):
        with self.assertRaises(NoText) as caught:
            read_book(text)
        return caught.exception.at

    def test_twenty_within_one_another_are_read(self):
        for deep in range(21):
            self.assertEqual(read_book(book_text(nested_book(deep))), nested_book(deep))

    def test_one_more_is_refused_at_its_row(self):
        for deep in (21, 22, 30):
            rows = book_text(nested_book(deep)).split("\n")
            at = self.refused_at("\n".join(rows))
            self.assertEqual(at, first_wrong_row(rows))
            self.assertIn(rows[at].split(" ")[0], ("if", "times"))

    def test_each_kind_within_twenty_of_each(self):
        for outer in ("if 1", "times 1"):
            for inner in ("if 1", "times 1"):
                rows = ["fields"] + [outer] * 20
                self.assertEqual(self.refused_at("\n".join(rows)), 21)
                self.assertEqual(self.refused_at("\n".join(rows + [inner])), 21)
                self.assertEqual(self.refused_at("\n".join(rows + ["see 1", inner])), 22)
                self.assertEqual(self.refused_at("\n".join(rows + [inner] * 1000)), 21)

    def test_in_the_other_block_too(self):
        rows = ["fields"] + ["if 1", "else"] * 20
        self.assertEqual(self.refused_at("\n".join(rows + ["times 1"])), 41)
        told = read_book("\n".join(rows + ["end"] * 20))
        self.assertEqual(book_text(told), "\n".join(rows + ["end"] * 20))

    def test_hundreds_beside_one_another(self):
        rows = ["fields"] + ["if 1", "else", "end", "times 2", "end"] * 300
        self.assertEqual(len(read_book("\n".join(rows))[2]), 600)

    def test_an_expression_too_deep_is_refused_at_its_row(self):
        deep = show_expression(deep_expression(31))
        for row in (f"see {deep}", f"set x {deep}", f"if {deep}", f"draw x from 1 : {deep}", f"draw x from {deep} : 1"):
            self.assertEqual(self.refused_at("\n".join(["fields", "see 1", row, "else", "end"])), 2)
        self.assertEqual(self.refused_at(f"unknown x from 1 : {deep}\nfields"), 0)


class Refused(unittest.TestCase):
    def assert_refused(self, rows, at):
        with self.assertRaises(NoText, msg=rows) as caught:
            read_book("\n".join(rows))
        self.assertEqual(caught.exception.at, at, rows)

    def test_what_lacks_at_the_end(self):
        one = "unknown a from 1 : 1"
        for rows in (
            [one], [one, one], ["fields", "if 1"], ["fields", "if 1", "else"], ["fields", "times 1"],
            ["fields", "times 1", "if 1", "else", "end"], ["fields", "if 1", "see 1", "else", "see 1"],
        ):
            self.assert_refused(rows, len(rows))

    def test_rows_elsewhere(self):
        one = "unknown a from 1 : 1"
        for rows, at in (
            ([""], 0), (["see 1"], 0), (["end"], 0), ([one, "see 1"], 1), (["fields", one], 1), (["fields", "fields"], 1),
            ([one, "fields", "see 1", one], 3), (["fields f", "fields g"], 1), (["fields", "end"], 1), (["fields", "else"], 1),
            (["fields", "if 1", "end"], 2), (["fields", "if 1", "else", "else", "end"], 3), (["fields", "times 1", "else"], 2),
            (["fields", "times 1", "end", "end"], 3), (["fields", "if 1", "else", "end", "end"], 4),
            (["fields", "if 1", "else", "end", "else"], 4), (["fields", "if 1", "times 1", "else", "end"], 3),
            (["fields", "if 1", "fields", "else", "end"], 2), (["fields", ""], 1), (["fields", "", "see 1"], 1),
            (["", "fields"], 0), (["fields", "see 1", ""], 2),
        ):
            self.assertEqual(first_wrong_row(rows), at, rows)
            self.assert_refused(rows, at)

    def test_wrong_words_in_a_row(self):
        for row in (
            "unknown", "unknown ", "unknown a", "unknown a from", "unknown a from 1", "unknown a from 1 :",
            "unknown a from 1 : 2 ,", "unknown a from 1 : 2 3 : 4", "unknown a from 1 , 2", "unknown a from , 1 : 2",
            "unknown a from 1 : 2 , , 1 : 2", "unknown a from 1 : 2 : 3", "unknown if from 1 : 2", "unknown A from 1 : 2",
            "unknown abcdefg from 1 : 2", "unknown a of 1 : 2", "unknown a from 1 : 1000", "unknown a from 01 : 1",
            "unknown  a from 1 : 2", "unknown a  from 1 : 2", "unknown a from  1 : 2", "unknown a from 1 : 2 ",
            " unknown a from 1 : 2", "unknown a from 1: 2", "unknown a from 1 :2", "unknown a from 1 : 2, 1 : 2",
            "unknown a b from 1 : 2", "Unknown a from 1 : 2", "unknowns a from 1 : 2", "a from 1 : 2",
        ):
            self.assert_refused([row, "fields"], 0)
            self.assert_refused(["unknown b from 1 : 1", row, "fields"], 1)
            self.assert_refused(["fields", row.replace("unknown", "draw", 1)], 1)
        for row in (
            "fields ", " fields", "fields  f", "fields f ", "fields if", "fields 1", "fields F", "fields abcdefg", "field f",
            "fields f , g", "fields f\t", "fieldsf",
        ):
            self.assert_refused([row], 0)
        for row in (
            "set", "set x", "set x ", "set  x 1", "set x  1", "set x 1 ", "set x 1 2", "set 1 x", "set if 1", "set x = 1",
            "set x ( + 1 )", "set x ( + 1 2", "see", "see ", "see  1", "see 1 ", "see 1 2", "see ( not )", "see if", " see 1",
            "sees 1", "see 1000", "if", "if ", "if 1 ", "if  1", "if 1 2", "if ( if 1 2 )", "if else", "else ", "else 1",
            " else", "end ", "end 1", " end", "times", "times ", "times x", "times 10", "times 01", "times -1", "times  1",
            "times 1 ", "times 1 2", "times ( + 1 1 )", "times +1", "times \u0661", "ask 1", "given 1", "1", "x", "draw",
            "not 1", "from", "\t",
        ):
            for rows in (["fields", row], ["fields", "see 1", "times 1", row, "else", "end"], ["fields", "if 1", "else", row]):
                at = rows.index(row)
                self.assertEqual(first_wrong_row(rows), at, row)
                self.assert_refused(rows, at)

    def check(self, rows):
        at = first_wrong_row(rows)
        if at is None:
            self.assertEqual(book_text(read_book("\n".join(rows))), "\n".join(rows))
        else:
            self.assert_refused(rows, at)
        return at is not None

    def test_rows_left_out_twice_others_put_in_and_exchanged(self):
        refused = 0
        for k in range(300):
            source = source_of(k)
            rows = book_text(some_book(source)).split("\n")
            for changed in mutations(source, rows, POOL):
                # Rows that aren't there at all are the one empty row.
                refused += self.check(changed or [""])
        self.assertGreater(refused, 500)

    def test_words_of_a_row_likewise(self):
        refused = 0
        for k in range(300):
            source = source_of(k)
            rows = book_text(some_book(source)).split("\n")
            at = source.randrange(len(rows))
            for changed in mutations(source, rows[at].split(" "), WORD_POOL):
                refused += self.check(rows[:at] + [" ".join(changed)] + rows[at + 1:])
        self.assertGreater(refused, 1000)


if __name__ == "__main__":
    unittest.main()
