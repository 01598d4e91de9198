"""Points 8 and 10: statements of books, and rows."""

import inspect
import unittest

from chancetongue import books
from chancetongue.books import is_row, statements_of
from tests.making import name, nested_book, num, some_book, source_of

DRAW = ("draw", "x", ((num(1), num(2)), (num(3), num(4))))
SEE = ("see", name("x"))


def see(n):
    return ("see", num(n))


def in_order(block):
    for statement in block:
        yield statement
        if statement[0] in ("if", "times"):
            for inner in statement[2:]:
                yield from in_order(inner)


class Statements(unittest.TestCase):
    def test_none(self):
        self.assertEqual(statements_of(((), (), ())), [])

    def test_one_behind_the_other(self):
        self.assertEqual(statements_of(((), ("f",), (DRAW, SEE, see(1), SEE))), [DRAW, SEE, see(1), SEE])

    def test_one_ahead_of_those_in_its_blocks(self):
        twice = ("times", 2, (see(3), see(4)))
        choice = ("if", num(0), (see(1), see(2), twice), (see(5),))
        self.assertEqual(
            statements_of(((), (), (see(0), choice, see(6)))),
            [see(0), choice, see(1), see(2), twice, see(3), see(4), see(5), see(6)],
        )

    def test_empty_blocks(self):
        choice, rounds = ("if", num(1), (), ()), ("times", 3, ())
        self.assertEqual(statements_of(((), (), (choice, rounds, see(1)))), [choice, rounds, see(1)])
        half, other = ("if", num(1), (), (see(2),)), ("if", num(1), (see(3),), ())
        self.assertEqual(statements_of(((), (), (half, other))), [half, see(2), other, see(3)])

    def test_within_one_another(self):
        inner = ("times", 1, (see(1),))
        middle = ("if", num(2), (inner,), (inner,))
        outer = ("times", 3, (middle,))
        self.assertEqual(statements_of(((), (), (outer, outer)))[:7], [outer, middle, inner, see(1), inner, see(1), outer])

    def test_many(self):
        for k in range(200):
            book = some_book(source_of(k))
            told = statements_of(book)
            self.assertIs(type(told), list)
            self.assertEqual(told, list(in_order(book[2])))
        self.assertEqual(statements_of(nested_book(20)), list(in_order(nested_book(20)[2])))

    def test_the_list_is_a_new_one(self):
        book = ((), (), (SEE, DRAW))
        statements_of(book).clear()
        self.assertEqual(statements_of(book), [SEE, DRAW])

    def test_arguments(self):
        self.assertEqual(str(inspect.signature(books.statements_of)), "(book)")
        self.assertEqual(str(inspect.signature(books.is_row)), "(book, row)")
        self.assertIs(is_row(row=(), book=((), (), ())), True)


class Rows(unittest.TestCase):
    def book(self, many):
        return ((), ("f", "g", "h")[:many], ())

    def test_as_many_numbers_as_fields(self):
        for row in ((), (0,), (999,), (1, 2), (0, 999), (0, 0, 0), (999, 999, 999), (5, 5, 5)):
            for many in range(4):
                self.assertIs(is_row(self.book(many), row), len(row) == many, (many, row))

    def test_numbers_beyond(self):
        for wrong in (-1, 1000, -999, 10 ** 50, -10 ** 50, True, False, "", "1", "a", None, (), (1,), ((),), ("a", None)):
            self.assertIs(is_row(self.book(1), (wrong,)), False, wrong)
            for row in ((wrong, 1, 2), (1, wrong, 2), (1, 2, wrong), (wrong, wrong, wrong)):
                self.assertIs(is_row(self.book(3), row), False, row)

    def test_anything_in_its_place(self):
        for thing in (0, 1, -1, 999, 10 ** 50, "", "1", "123", "abc", True, False, None, ((1,),), ((1,), (2,), (3,)), ((),)):
            for many in range(4):
                self.assertIs(is_row(self.book(many), thing), False, (many, thing))

    def test_nothing_hangs_on_unknowns_and_body(self):
        book = ((("a", ((num(1), num(1)),)),), ("f",), (SEE,))
        self.assertIs(is_row(book, (3,)), True)
        self.assertIs(is_row(book, (3, 4)), False)
        self.assertIs(is_row(book, ()), False)


if __name__ == "__main__":
    unittest.main()
