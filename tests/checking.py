"""What several tests check in the same way."""

import unittest

from chancetongue.cases import Case
from chancetongue.shares import product_of, quotient_of
from tests.slowcase import SlowCase, deed_by_method
from tests.somebooks import good_deed


class Refusing(unittest.TestCase):
    def assert_refused(self, wanted, call, *things, **more):
        """Refused with an error of just this kind and these fields."""
        with self.assertRaises(type(wanted), msg=repr(things)) as caught:
            call(*things, **more)
        self.assertIs(type(caught.exception), type(wanted), repr(things))
        self.assertEqual(vars(caught.exception), vars(wanted), repr(things))


def case_of(book, *deeds):
    case = Case(book)
    case.several(deeds)
    return case


def some_case(source, book, deeds):
    """A case behind so many deeds."""
    case, slow = Case(book), SlowCase(book)
    for k in range(deeds):
        deed = good_deed(source, book, slow.now)
        slow.do(deed)
        deed_by_method(case, deed)
    return case


def product_of_split(split):
    """The first share times all up, by down."""
    first, steps = split
    for datum, up, down in steps:
        first = product_of(first, quotient_of(up, down))
    return first
