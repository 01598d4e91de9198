"""Points 22, 23 and 24: worths backward, cuts, worths looked at."""

import copy
import inspect
import unittest
from fractions import Fraction

from chancetongue import worths
from chancetongue.booktexts import read_book
from chancetongue.exprtexts import read_expression
from chancetongue.flows import flow_of
from chancetongue.looking import look
from chancetongue.tables import share_along, tables_of
from chancetongue.worths import cut_at, worths_hold, worths_of
from tests.making import few_ways_book, name, num, some_row, some_values, source_of
from tests.slow import as_fraction, as_share, slow_known, slow_live, slow_value, slow_walks

MEET = (
    "fields", "draw x from 1 : 0 , 3 : 1", "if x", "draw y from 1 : 0 , 1 : 1", "else", "draw y from 1 : 1 , 2 : 2", "end",
    "see ( < y 2 )",
)
PAST = ("fields", "draw x from 1 : 0 , 3 : 1", "if x", "see 1", "see 2", "else", "end", "see x")


def book_of(*rows):
    book = read_book("\n".join(rows))
    look(book)
    return book


def worths_by(rows, values=(), row=(), asked="1"):
    return worths_of(book_of(*rows), values, row, asked=read_expression(asked))


def slow_worths(book, values, row, asked):
    """The worths: from each place at which a way comes, all ways from there gone through one by one."""
    flow = flow_of(book, asked=asked)
    live = slow_live(book, flow)
    found = [{} for names in flow]
    for walk in slow_walks(flow, slow_known(book, values, row)):
        for r, share, known in walk:
            state = tuple(known[x] for x in live[r])
            if state not in found[r]:
                ends = [on[-1] for on in slow_walks(flow, known, r)]
                found[r][state] = sum([
                    part for n, part, there in ends if flow[n][0] == "end" and slow_value(asked, there)
                ], Fraction(0))
    return [[(state, as_share(table[state])) for state in sorted(table)] for table in found]


def slow_cut(book, values, row, r, asked):
    """The cut: of all ways, each gone through by itself, the first place from row r on."""
    flow = flow_of(book, asked=asked)
    live = slow_live(book, flow)
    found, came = {}, {}
    for walk in slow_walks(flow, slow_known(book, values, row)):
        for n, share, known in walk:
            if n >= r:
                if (n, id(known)) not in came:
                    came[n, id(known)] = known
                    place = (n, tuple(known[x] for x in live[n]))
                    found[place] = found.get(place, 0) + share
                break
    return {place: as_share(found[place]) for place in found}


class Worths(unittest.TestCase):
    def test_no_statements(self):
        self.assertEqual(worths_by(["fields"]), [{(): (1, 1)}])
        self.assertEqual(worths_by(["fields"], asked="0"), [{(): (0, 1)}])

    def test_blocks_that_meet_again(self):
        told = worths_by(MEET)
        self.assertEqual([list(table.items()) for table in told], [
            [((), (5, 6))], [((0,), (1, 3)), ((1,), (1, 1))], [((), (1, 1))], [((), (1, 3))],
            [((0,), (1, 1)), ((1,), (1, 1)), ((2,), (0, 1))], [((), (1, 1))],
        ])

    def test_the_expression_asked(self):
        self.assertEqual(worths_by(MEET, asked="y"), [
            {(): (11, 24)}, {(0,): (1, 3), (1,): (1, 2)}, {(): (1, 2)}, {(): (1, 3)},
            {(0,): (0, 1), (1,): (1, 1), (2,): (0, 1)}, {(0,): (0, 1), (1,): (1, 1)},
        ])
        self.assertEqual(worths_by(MEET, asked="0")[:2], [{(): (0, 1)}, {(0,): (0, 1), (1,): (0, 1)}])

    def test_rows_to_which_no_way_comes(self):
        rows = ["fields", "set x 1", "if x", "see 1", "else", "see 2", "end", "see 0", "see 3"]
        self.assertEqual(worths_by(rows), [{(): (0, 1)}, {(1,): (0, 1)}, {(): (0, 1)}, {}, {(): (0, 1)}, {}, {}])

    def test_a_draw_whose_weights_are_all_nought(self):
        rows = ["unknown a from 1 : 1", "fields", "draw x from a : 1 , 0 : 2", "see x"]
        self.assertEqual(worths_by(rows, (0,)), [{(): (0, 1)}, {}, {}])
        self.assertEqual(worths_by(rows, (9,)), [{(): (1, 1)}, {(1,): (1, 1)}, {(): (1, 1)}])

    def test_fields_and_unknowns(self):
        rows = ["unknown a from 1 : 1", "fields f", "draw x from a : f , 1 : 0", "see ( = x f )"]
        self.assertEqual(worths_by(rows, (3,), (2,)), [{(): (3, 4)}, {(0,): (0, 1), (2,): (1, 1)}, {(): (1, 1)}])

    def test_what_is_told_is_the_askers_own(self):
        book = book_of(*MEET)
        first = worths_of(book, (), ())
        kept = copy.deepcopy(first)
        first[1].clear()
        first[0][()] = (7, 9)
        first.pop()
        self.assertEqual(worths_of(book, (), ()), kept)

    def test_some_books(self):
        between = 0
        for seed in range(300):
            source = source_of(seed)
            book, asked, whole = few_ways_book(source, most=60, rows=24)
            values, row = some_values(source, book), some_row(source, book)
            for end in (asked, num(1)):
                told = worths_of(book, values, row, asked=end)
                self.assertEqual([list(table.items()) for table in told], slow_worths(book, values, row, end))
                self.assertEqual(told[0], {(): share_along(book, values, row, asked=end)})
                between += 0 < as_fraction(told[0][()]) < 1
                came = [list(table) for table in tables_of(book, values, row, asked=end)]
                self.assertEqual([list(table) for table in told], came)
            self.assertEqual(told, worths_of(book, values, row))
        self.assertGreater(between, 30)

    def test_arguments(self):
        for word, told in (
            ("worths_of", "(book, values, row, *, asked=('num', 1))"),
            ("cut_at", "(book, values, row, r, *, asked=('num', 1))"),
            ("worths_hold", "(book, values, row, some, *, asked=('num', 1))"),
        ):
            self.assertEqual(str(inspect.signature(getattr(worths, word))), told)
        book = book_of("unknown a from 1 : 1", "fields f", "see ( < a f )")
        told = worths_of(row=(3,), values=(2,), book=book)
        self.assertEqual(told, [{(): (1, 1)}, {(): (1, 1)}])
        self.assertIs(worths_hold(some=told, row=(3,), values=(2,), book=book), True)
        self.assertEqual(cut_at(r=1, row=(3,), values=(2,), book=book), {(1, ()): (1, 1)})
        for asking in (lambda: worths_of(book, (2,), (3,), num(1)), lambda: cut_at(book, (2,), (3,), 0, num(1))):
            with self.assertRaises(TypeError):
                asking()


class Cuts(unittest.TestCase):
    def assert_whole(self, book, values, row, asked):
        told = worths_of(book, values, row, asked=asked)
        whole = as_fraction(share_along(book, values, row, asked=asked))
        for r in range(len(told)):
            cut = cut_at(book, values, row, r, asked=asked)
            parts = [as_fraction(share) * as_fraction(told[n][state]) for (n, state), share in cut.items()]
            self.assertEqual(sum(parts), whole)
            self.assertEqual(cut, slow_cut(book, values, row, r, asked))

    def test_before_row_0(self):
        self.assertEqual(cut_at(book_of(*MEET), (), (), 0), {(0, ()): (1, 1)})
        self.assertEqual(cut_at(book_of("fields"), (), (), 0), {(0, ()): (1, 1)})
        self.assertEqual(cut_at(book_of("fields"), (), (), 0, asked=num(0)), {(0, ()): (1, 1)})
        self.assertEqual(cut_at(book_of("fields", "see 0"), (), (), 0), {(0, ()): (1, 1)})

    def test_before_each_row(self):
        book = book_of(*MEET)
        self.assertEqual([cut_at(book, (), (), r) for r in range(1, 6)], [
            {(1, (0,)): (1, 4), (1, (1,)): (3, 4)},
            {(2, ()): (3, 4), (3, ()): (1, 4)},
            {(3, ()): (1, 4), (4, (0,)): (3, 8), (4, (1,)): (3, 8)},
            {(4, (0,)): (3, 8), (4, (1,)): (11, 24), (4, (2,)): (1, 6)},
            {(5, ()): (5, 6)},
        ])

    def test_ways_that_go_past(self):
        book = book_of(*PAST)
        self.assertEqual(cut_at(book, (), (), 2), {(2, (1,)): (3, 4), (4, (0,)): (1, 4)})
        self.assertEqual(cut_at(book, (), (), 3), {(3, (1,)): (3, 4), (4, (0,)): (1, 4)})
        self.assertEqual(cut_at(book, (), (), 4), {(4, (0,)): (1, 4), (4, (1,)): (3, 4)})
        self.assertEqual(cut_at(book, (), (), 5), {(5, ()): (3, 4)})

    def test_a_row_has_only_what_came_from_ahead_of_the_cut(self):
        # Row 4 gets ways from row 1 and from row 3: a cut before row 3 has those of row 1 alone.
        book = book_of("fields", "draw x from 1 : 0 , 3 : 1", "if x", "see 1", "see 2", "else", "end", "see 7")
        self.assertEqual(cut_at(book, (), (), 3), {(3, ()): (3, 4), (4, ()): (1, 4)})
        self.assertEqual(tables_of(book, (), ())[4], {(): (1, 1)})

    def test_nothing_comes_over(self):
        book = book_of("fields", "see 0", "see 1", "see 2")
        self.assertEqual([cut_at(book, (), (), r) for r in range(4)], [{(0, ()): (1, 1)}, {}, {}, {}])

    def test_the_last_row(self):
        book = book_of("fields", "draw x from 1 : 0 , 3 : 1")
        self.assertEqual(cut_at(book, (), (), 1), {(1, ()): (1, 1)})
        self.assertEqual(cut_at(book, (), (), 1, asked=name("x")), {(1, (0,)): (1, 4), (1, (1,)): (3, 4)})

    def test_what_is_told_is_the_askers_own(self):
        book = book_of(*MEET)
        for r in (0, 2):
            first = cut_at(book, (), (), r)
            kept = dict(first)
            first.clear()
            self.assertEqual(cut_at(book, (), (), r), kept)

    def test_examples_come_to_the_whole(self):
        for rows in (MEET, PAST, ["fields"], ["fields", "see 0", "see 1"]):
            for asked in (num(1), num(0)):
                self.assert_whole(book_of(*rows), (), (), asked)

    def test_some_books(self):
        for seed in range(250):
            source = source_of(seed)
            book, asked, whole = few_ways_book(source, most=60, rows=24)
            self.assert_whole(book, some_values(source, book), some_row(source, book), asked)


class Held(unittest.TestCase):
    def setUp(self):
        self.book = book_of(*MEET)
        self.told = worths_of(self.book, (), ())

    def holds(self, some, **more):
        kept = copy.deepcopy(some)
        held = worths_hold(self.book, (), (), some, **more)
        self.assertEqual(some, kept)
        return held

    def test_the_list_told(self):
        self.assertIs(self.holds(self.told), True)
        self.assertIs(self.holds(self.told, asked=num(3)), True)
        self.assertIs(self.holds(self.told, asked=name("y")), False)
        asked = worths_of(self.book, (), (), asked=name("y"))
        self.assertIs(self.holds(asked, asked=name("y")), True)
        self.assertIs(self.holds(asked), False)

    def test_another_share_at_any_place(self):
        for r, table in enumerate(self.told):
            for state, share in table.items():
                for other in ((1, 7), (0, 1), (1, 1), (-1, 1), (2, 1), (share[0] + 1, share[1])):
                    if other != share:
                        some = copy.deepcopy(self.told)
                        some[r][state] = other
                        self.assertIs(self.holds(some), False, (r, state, other))

    def test_shares_that_are_not_in_lowest_terms(self):
        for r, table in enumerate(self.told):
            for state, share in table.items():
                for by in (2, -1, 0):
                    some = copy.deepcopy(self.told)
                    some[r][state] = (share[0] * by, share[1] * by)
                    self.assertIs(self.holds(some), False, (r, state, by))

    def test_all_shares_alike_otherwise(self):
        some = [{state: (0, 1) for state in table} for table in self.told]
        self.assertIs(self.holds(some), False)
        some = [{state: (0, 0) for state in table} for table in self.told]
        self.assertIs(self.holds(some), False)

    def test_an_entry_more(self):
        for r in range(len(self.told)):
            for state in ((9,), (), (0,), (1, 1), (0, 0, 0), (2,)):
                for share in ((0, 1), (1, 1), (5, 6)):
                    if state not in self.told[r]:
                        some = copy.deepcopy(self.told)
                        some[r][state] = share
                        self.assertIs(self.holds(some), False, (r, state))

    def test_an_entry_fewer(self):
        for r, table in enumerate(self.told):
            for state in table:
                some = copy.deepcopy(self.told)
                del some[r][state]
                self.assertIs(self.holds(some), False, (r, state))

    def test_a_state_of_another_length(self):
        for r, table in enumerate(self.told):
            for state in table:
                for other in ((*state, 0), state[1:], (*state, *state, 1)):
                    if other != state:
                        some = copy.deepcopy(self.told)
                        some[r][other] = some[r].pop(state)
                        self.assertIs(self.holds(some), False, (r, other))

    def test_a_list_of_another_length(self):
        self.assertIs(self.holds([]), False)
        self.assertIs(self.holds(self.told[:-1]), False)
        self.assertIs(self.holds(self.told[1:]), False)
        self.assertIs(self.holds([*self.told, {}]), False)
        self.assertIs(self.holds([*self.told, {(): (1, 1)}]), False)
        self.assertIs(self.holds([{}, *self.told]), False)

    def test_empty_ones(self):
        self.assertIs(self.holds([{} for table in self.told]), False)
        for r in range(len(self.told)):
            some = copy.deepcopy(self.told)
            some[r] = {}
            self.assertIs(self.holds(some), False)
        book = book_of("fields", "see 0", "see 1")
        self.assertIs(worths_hold(book, (), (), [{(): (0, 1)}, {}, {}]), True)
        self.assertIs(worths_hold(book, (), (), [{(): (0, 1)}, {(): (1, 1)}, {(): (1, 1)}]), False)
        self.assertIs(worths_hold(book, (), (), [{}, {}, {}]), False)

    def test_of_orders_nothing_hangs(self):
        some = [dict(list(table.items())[::-1]) for table in self.told]
        self.assertNotEqual([list(table) for table in some], [list(table) for table in self.told])
        self.assertIs(self.holds(some), True)

    def test_by_other_values_and_rows(self):
        book = book_of("unknown a from 1 : 1", "fields f", "draw x from a : f , 1 : 0", "see ( = x f )")
        told = worths_of(book, (3,), (2,))
        self.assertIs(worths_hold(book, (3,), (2,), told), True)
        self.assertIs(worths_hold(book, (4,), (2,), told), False)
        self.assertIs(worths_hold(book, (3,), (1,), told), False)

    def test_some_books(self):
        for seed in range(200):
            source = source_of(seed)
            book, asked, whole = few_ways_book(source, most=60, rows=24)
            values, row = some_values(source, book), some_row(source, book)
            told = worths_of(book, values, row, asked=asked)
            self.assertIs(worths_hold(book, values, row, told, asked=asked), True)
            r = source.choice([n for n in range(len(told)) if told[n]])
            state = source.choice(list(told[r]))
            told[r][state] = as_share(as_fraction(told[r][state]) / 2 + Fraction(1, 7))
            self.assertEqual(
                worths_hold(book, values, row, told, asked=asked), told == worths_of(book, values, row, asked=asked)
            )


if __name__ == "__main__":
    unittest.main()
