"""Point 21: tables forward, and the flow's share."""

import copy
import inspect
import unittest
from fractions import Fraction

from chancetongue import tables
from chancetongue.booktexts import read_book
from chancetongue.expressions import value_of
from chancetongue.exprtexts import read_expression
from chancetongue.flows import flow_of, live_at
from chancetongue.looking import look
from chancetongue.shares import sum_of
from chancetongue.tables import share_along, tables_of
from chancetongue.ways import ways_of_row
from tests.making import few_ways_book, name, num, some_row, some_values, source_of
from tests.slow import as_share, slow_known, slow_live, slow_value, slow_walks, slow_ways


def book_of(*rows):
    book = read_book("\n".join(rows))
    look(book)
    return book


def tables_by(rows, values=(), row=(), asked="1"):
    return tables_of(book_of(*rows), values, row, asked=read_expression(asked))


def share_by(rows, values=(), row=(), asked="1"):
    return share_along(book_of(*rows), values, row, asked=read_expression(asked))


class Tables(unittest.TestCase):
    def test_no_statements(self):
        self.assertEqual(tables_by(["fields"]), [{(): (1, 1)}])
        self.assertEqual(share_by(["fields"]), (1, 1))
        self.assertEqual(share_by(["fields"], asked="0"), (0, 1))

    def test_states_rising_with_their_shares_added(self):
        rows = ["fields", "draw x from 1 : 3 , 1 : 1 , 2 : 3 , 2 : 2", "see x"]
        told = tables_by(rows)
        self.assertEqual([list(table.items()) for table in told], [
            [((), (1, 1))], [((1,), (1, 6)), ((2,), (1, 3)), ((3,), (1, 2))], [((), (1, 1))],
        ])

    def test_states_of_several_locals_in_order(self):
        rows = ["fields", "draw y from 1 : 0 , 1 : 1", "draw x from 1 : 5 , 2 : 4", "see ( + x y )"]
        told = tables_by(rows)
        self.assertEqual(list(told[2].items()), [
            ((4, 0), (1, 3)), ((4, 1), (1, 3)), ((5, 0), (1, 6)), ((5, 1), (1, 6)),
        ])

    def test_rows_to_which_no_way_comes(self):
        rows = ["fields", "set x 1", "if x", "see 1", "else", "see 2", "end", "see 3"]
        self.assertEqual(
            tables_by(rows), [{(): (1, 1)}, {(1,): (1, 1)}, {(): (1, 1)}, {}, {(): (1, 1)}, {(): (1, 1)}]
        )

    def test_a_see_that_is_not_so(self):
        rows = ["fields f", "draw x from 1 : 1 , 2 : 2", "see ( = x f )", "see 1"]
        self.assertEqual(tables_by(rows, row=(2,))[2:], [{(): (2, 3)}, {(): (2, 3)}])
        self.assertEqual(tables_by(rows, row=(3,))[2:], [{}, {}])
        self.assertEqual(share_by(rows, row=(2,)), (2, 3))
        self.assertEqual(share_by(rows, row=(3,)), (0, 1))

    def test_a_draw_whose_weights_are_all_nought(self):
        rows = ["unknown a from 1 : 1", "fields", "draw x from a : 1 , 0 : 2", "see x"]
        self.assertEqual(tables_by(rows, (0,)), [{(): (1, 1)}, {}, {}])
        self.assertEqual(tables_by(rows, (3,)), [{(): (1, 1)}, {(1,): (1, 1)}, {(): (1, 1)}])
        self.assertEqual(share_by(rows, (0,)), (0, 1))

    def test_states_of_no_live_locals(self):
        rows = ["fields", "draw x from 1 : 1 , 2 : 2", "see 1"]
        self.assertEqual(tables_by(rows), [{(): (1, 1)}] * 3)

    def test_blocks_meet_again(self):
        rows = [
            "fields", "draw x from 1 : 0 , 3 : 1", "if x", "draw y from 1 : 0 , 1 : 1", "else", "draw y from 1 : 1 , 2 : 2",
            "end",
        ]
        self.assertEqual(tables_by(rows, asked="y"), [
            {(): (1, 1)}, {(0,): (1, 4), (1,): (3, 4)}, {(): (3, 4)}, {(): (1, 4)},
            {(0,): (3, 8), (1,): (11, 24), (2,): (1, 6)},
        ])
        self.assertEqual(share_by(rows, asked="y"), (5, 8))
        self.assertEqual(share_by(rows, asked="( = y 2 )"), (1, 6))
        self.assertEqual(share_by(rows), (1, 1))

    def test_the_expression_asked(self):
        rows = ["unknown a from 1 : 1", "fields f", "draw x from 1 : 1 , 2 : 2", "see ( < 0 x )"]
        self.assertEqual(tables_by(rows, (1,), (2,), asked="( = x f )")[2], {(1,): (1, 3), (2,): (2, 3)})
        self.assertEqual(share_by(rows, (1,), (2,), asked="( = x f )"), (2, 3))
        self.assertEqual(share_by(rows, (1,), (2,), asked="( = x a )"), (1, 3))
        self.assertEqual(share_by(rows, (1,), (2,), asked="( = x 9 )"), (0, 1))

    def test_what_is_told_is_the_askers_own(self):
        book = book_of("fields", "draw x from 1 : 1 , 2 : 2", "see x")
        first = tables_of(book, (), ())
        kept = copy.deepcopy(first)
        first[0][()] = (5, 6)
        first[1].clear()
        first.pop()
        self.assertEqual(tables_of(book, (), ()), kept)

    def test_weights_together_60_on_six_draws(self):
        draw = "draw x from 1 : 0 , 59 : 1"
        rows = ["fields", "set s 0", "times 3", draw, "set s ( + s x )", draw, "set s ( + s x )", "end"]
        self.assertEqual(share_by(rows, asked="( = s 0 )"), (1, 60 ** 6))
        self.assertEqual(share_by(rows, asked="( = s 6 )"), (59 ** 6, 60 ** 6))
        self.assertEqual(share_by(rows, asked="( = s 3 )"), as_share(Fraction(20 * 59 ** 3, 60 ** 6)))

    def test_some_books(self):
        merged = 0
        for seed in range(400):
            source = source_of(seed)
            book, asked, whole = few_ways_book(source, most=100, rows=24)
            values, row = some_values(source, book), some_row(source, book)
            for end in (asked, num(1)):
                told = tables_of(book, values, row, asked=end)
                slow = self.slow_tables(book, values, row, end)
                self.assertEqual([list(table.items()) for table in told], slow)
            merged += len(slow_ways(book, values, row)) > len(told[-1]) > 0
        self.assertGreater(merged, 50)

    def slow_tables(self, book, values, row, asked):
        flow = flow_of(book, asked=asked)
        live = slow_live(book, flow)
        sums = [{} for names in flow]
        came = {}
        for walk in slow_walks(flow, slow_known(book, values, row)):
            for r, share, known in walk:
                # Walks that part later have their first rows, and the very dicts there, in common.
                if (r, id(known)) not in came:
                    came[r, id(known)] = known
                    state = tuple(known[x] for x in live[r])
                    sums[r][state] = sums[r].get(state, 0) + share
        return [[(state, as_share(table[state])) for state in sorted(table)] for table in sums]

    def test_the_share_is_the_sum_of_all_ways_that_are_so(self):
        for seed in range(500):
            source = source_of(seed)
            book, asked, whole = few_ways_book(source)
            values, row = some_values(source, book), some_row(source, book)
            for end in (asked, whole, num(1), num(0)):
                slow = sum([share for share, known in slow_ways(book, values, row) if slow_value(end, known)])
                told = share_along(book, values, row, asked=end)
                self.assertEqual(told, as_share(slow))
                total = (0, 1)
                for share, names in ways_of_row(book, values, row):
                    if value_of(end, {**slow_known(book, values, row), **names}):
                        total = sum_of(total, share)
                self.assertEqual(told, total)
            self.assertEqual(share_along(book, values, row), share_along(book, values, row, asked=num(1)))

    def test_the_ends_states_that_are_so_have_the_share(self):
        for seed in range(100):
            source = source_of(seed)
            book, asked, whole = few_ways_book(source)
            values, row = some_values(source, book), some_row(source, book)
            live = live_at(book, flow_of(book, asked=asked))[-1]
            total = (0, 1)
            for state, share in tables_of(book, values, row, asked=asked)[-1].items():
                if value_of(asked, {**slow_known(book, values, row), **dict(zip(live, state))}):
                    total = sum_of(total, share)
            self.assertEqual(share_along(book, values, row, asked=asked), total)

    def test_arguments(self):
        for word in ("tables_of", "share_along"):
            told = str(inspect.signature(getattr(tables, word)))
            self.assertEqual(told, "(book, values, row, *, asked=('num', 1))")
        book = book_of("unknown a from 1 : 1", "fields f", "see ( < a f )")
        self.assertEqual(share_along(row=(3,), values=(2,), book=book), (1, 1))
        self.assertEqual(tables_of(row=(1,), values=(2,), book=book), [{(): (1, 1)}, {}])
        with self.assertRaises(TypeError):
            share_along(book, (2,), (3,), name("a"))


if __name__ == "__main__":
    unittest.main()
