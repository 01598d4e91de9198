"""Point 27: the machine."""

import inspect
import unittest
from fractions import Fraction

from chancetongue import machine
from chancetongue.booktexts import read_book
from chancetongue.exprtexts import read_expression
from chancetongue.flows import flow_of, live_at
from chancetongue.looking import look
from chancetongue.machine import Machine, run_code
from chancetongue.packing import packed, width_of
from chancetongue.tables import share_along, tables_of
from tests.making import few_ways_book, num, some_row, some_values, source_of
from tests.slow import as_fraction, as_share, slow_sets, slow_value
from tests.test_packing import all_slots, slow_packed, slow_spans


def book_of(*rows):
    book = read_book("\n".join(rows))
    look(book)
    return book


def code_of(rows, asked="1"):
    book = book_of(*rows)
    return packed(book, flow_of(book, asked=read_expression(asked)))


class SlowMachine:
    """Ways along packed rows, none put together with another till they are told."""

    def __init__(self, code, values, row):
        self.code, self.values, self.row = code, values, row
        self.ways = [(0, (0,) * width_of(code), Fraction(1))]
        self.found, self.most = Fraction(0), 1

    def value(self, expression, slots):
        def named(thing):
            if isinstance(thing, tuple) and thing[0] in ("slot", "unknown", "field"):
                return num({"slot": slots, "unknown": self.values, "field": self.row}[thing[0]][thing[1]])
            return tuple(named(part) for part in thing) if isinstance(thing, tuple) else thing
        return slow_value(named(expression), {})

    def on(self, row, slots):
        """What comes of a row: (fraction, next row, slots)."""
        def put(slot, number):
            return (*slots[:slot], number, *slots[slot + 1:])
        if row[0] == "draw":
            weights = [self.value(weight, slots) for weight, worth in row[2]]
            return [
                (Fraction(weight, sum(weights)), row[3], put(row[1], self.value(worth, slots)))
                for weight, (other, worth) in zip(weights, row[2]) if weight
            ]
        if row[0] == "set":
            return [(1, row[3], put(row[1], self.value(row[2], slots)))]
        so = self.value(row[1], slots) != 0
        if row[0] == "see":
            return [(1, row[2], slots)] if so else []
        return [(1, row[2] if so else row[3], slots)]

    def turn(self):
        if not self.ways:
            return False
        least = min(way[0] for way in self.ways)
        (row, cleared), behind = self.code[least], []
        for r, slots, share in self.ways:
            if r != least:
                behind.append((r, slots, share))
            elif row[0] == "end":
                self.found += share if self.value(row[1], slots) else 0
            else:
                for part, n, there in self.on(row, slots):
                    there = tuple(0 if slot in cleared else number for slot, number in enumerate(there))
                    behind.append((n, there, share * part))
        self.ways = behind
        self.most = max(self.most, len(self.table()))
        return True

    def table(self):
        sums = {}
        for r, slots, share in self.ways:
            sums[r, slots] = sums.get((r, slots), 0) + share
        return [(place, as_share(sums[place])) for place in sorted(sums)]


class Turns(unittest.TestCase):
    def tables(self, rows, values=(), row=(), asked="1"):
        """The tables at the begin and behind each turn."""
        made = Machine(code_of(rows, asked), values, row)
        told = [list(made.table().items())]
        while made.turn():
            told.append(list(made.table().items()))
        return told

    def test_the_begin(self):
        made = Machine(code_of(["fields", "set x 1", "set y 2", "see ( + x y )"]), (), ())
        self.assertEqual(made.table(), {(0, (0, 0)): (1, 1)})
        self.assertEqual(made.share(), (0, 1))
        self.assertEqual(made.widest(), 1)
        self.assertEqual(Machine(code_of(["fields"]), (), ()).table(), {(0, ()): (1, 1)})

    def test_no_statements(self):
        self.assertEqual(self.tables(["fields"]), [[((0, ()), (1, 1))], []])
        self.assertEqual(run_code(code_of(["fields"]), (), ()), (1, 1))
        self.assertEqual(run_code(code_of(["fields"], asked="0"), (), ()), (0, 1))

    def test_turns_of_each_form(self):
        rows = [
            "unknown a from 1 : 1", "fields f", "draw x from 1 : 0 , a : 1", "if x", "set x ( + x f )", "else", "end",
            "see ( < x 7 )",
        ]
        self.assertEqual(self.tables(rows, (3,), (5,)), [
            [((0, (0,)), (1, 1))],
            [((1, (0,)), (1, 4)), ((1, (1,)), (3, 4))],
            [((2, (1,)), (3, 4)), ((3, (0,)), (1, 4))],
            [((3, (0,)), (1, 4)), ((3, (6,)), (3, 4))],
            [((4, (0,)), (1, 1))],
            [],
        ])
        self.assertEqual(self.tables(rows, (3,), (6,))[4], [((4, (0,)), (1, 4))])

    def test_the_least_row_first(self):
        rows = [
            "fields", "draw x from 1 : 0 , 1 : 1", "if x", "set y 1", "set y ( + y 1 )", "else", "draw y from 1 : 3 , 1 : 4",
            "end",
        ]
        taken = []
        for table in self.tables(rows, asked="( = y 2 )")[:-1]:
            taken.append(table[0][0][0])
        self.assertEqual(taken, [0, 1, 2, 3, 4, 5])

    def test_shares_of_alike_are_added(self):
        rows = ["fields", "draw x from 1 : 7 , 2 : 7 , 1 : 8", "see x"]
        self.assertEqual(self.tables(rows)[1:], [[((1, (7,)), (3, 4)), ((1, (8,)), (1, 4))], [((2, (0,)), (1, 1))], []])

    def test_cleared_slots_are_0_behind(self):
        self.assertEqual(self.tables(["fields", "draw x from 1 : 7 , 2 : 8", "see 1"])[1], [((1, (0,)), (1, 1))])
        rows = ["fields", "set x 5", "draw y from 1 : 7 , 2 : 8", "see x", "see y"]
        made = Machine(code_of(rows), (), ())
        told = []
        while made.turn():
            told.append(sorted(sorted(slots) for r, slots in made.table()))
        self.assertEqual(told, [[[0, 5]], [[5, 7], [5, 8]], [[0, 7], [0, 8]], [[0, 0]], []])

    def test_a_slot_that_no_way_cleared_keeps_what_it_had(self):
        rows = ["fields", "draw x from 1 : 0 , 1 : 4", "if x", "see x", "else", "end", "see 1"]
        told = self.tables(rows)
        self.assertEqual(told[3], [((3, (0,)), (1, 1))])
        rows = ["fields", "draw x from 1 : 0 , 1 : 4", "if ( = x 0 )", "see ( not x )", "else", "end", "see 1"]
        self.assertEqual(self.tables(rows)[3], [((3, (0,)), (1, 2)), ((3, (4,)), (1, 2))])

    def test_share_so_far(self):
        code = code_of(["fields", "draw x from 1 : 0 , 1 : 1 , 4 : 2"], asked="x")
        made = Machine(code, (), ())
        shares = [made.share()]
        while made.turn():
            shares.append(made.share())
        self.assertEqual(shares, [(0, 1), (0, 1), (5, 6)])

    def test_an_empty_table(self):
        for rows in (["fields", "see 0", "see 1"], ["fields", "draw x from 0 : 1", "see x"], ["fields", "see 1"]):
            made = Machine(code_of(rows), (), ())
            turns = 0
            while made.table():
                self.assertIs(made.turn(), True)
                turns += 1
            self.assertEqual(turns, 1 if rows[1] != "see 1" else 2)
            share, widest = made.share(), made.widest()
            for again in range(2):
                self.assertIs(made.turn(), False)
                self.assertEqual((made.table(), made.share(), made.widest()), ({}, share, widest))

    def test_widest(self):
        code = code_of(["fields", "draw x from 1 : 0 , 1 : 1 , 4 : 2", "see ( < x 2 )", "see 1"])
        made = Machine(code, (), ())
        widest = [made.widest()]
        while made.turn():
            widest.append(made.widest())
        self.assertEqual(widest, [1, 3, 3, 3, 3])
        self.assertEqual(made.share(), (1, 3))

    def test_widest_counts_all_rows(self):
        rows = ["fields", "draw x from 1 : 0 , 1 : 1", "if x", "draw y from 1 : 1 , 1 : 2", "else", "draw y from 1 : 3 , 1 : 4", "end"]
        made = Machine(code_of(rows, asked="y"), (), ())
        widest = []
        while made.turn():
            widest.append((len(made.table()), made.widest()))
        self.assertEqual(widest, [(2, 2), (2, 2), (3, 3), (4, 4), (0, 4)])

    def test_what_is_told_is_the_askers_own(self):
        made = Machine(code_of(["fields", "draw x from 1 : 0 , 1 : 1", "see x"]), (), ())
        made.turn()
        first = made.table()
        kept = dict(first)
        first.clear()
        self.assertEqual(made.table(), kept)
        self.assertEqual(made.table(), kept)
        made.table()[(1, (5,))] = (1, 1)
        made.turn()
        self.assertEqual(made.table(), {(2, (0,)): (1, 2)})

    def test_two_machines_of_the_same(self):
        code = code_of(["fields", "draw x from 1 : 0 , 1 : 1", "see x"])
        one, other = Machine(code, (), ()), Machine(code, (), ())
        while one.turn():
            pass
        self.assertEqual(other.table(), {(0, (0,)): (1, 1)})
        self.assertEqual((one.share(), other.share()), ((1, 2), (0, 1)))

    def test_arguments(self):
        self.assertEqual(str(inspect.signature(machine.Machine)), "(code, values, row)")
        self.assertEqual(str(inspect.signature(machine.run_code)), "(code, values, row)")
        for word in ("turn", "table", "share", "widest"):
            self.assertEqual(str(inspect.signature(getattr(Machine, word))), "(self)")
            self.assertIn(word, vars(Machine))
        code = code_of(["unknown a from 1 : 1", "fields f", "see ( < a f )"])
        self.assertEqual(run_code(row=(3,), values=(2,), code=code), (1, 1))
        self.assertEqual(run_code(row=(2,), values=(3,), code=code), (0, 1))
        self.assertEqual(Machine(row=(2,), values=(3,), code=code).table(), {(0, ()): (1, 1)})

    def assert_run(self, book, flow, code, values, row, asked):
        made, slow = Machine(code, values, row), SlowMachine(code, values, row)
        tables = tables_of(book, values, row, asked=asked)
        slots = {x: new[1] for (new, cleared), old in zip(code, flow) for x in [slow_sets(old)] if x}
        live = live_at(book, flow)
        came = [dict() for names in flow]
        while True:
            told = made.table()
            self.assertEqual(list(told.items()), slow.table())
            self.assertEqual((made.share(), made.widest()), (as_share(slow.found), slow.most))
            if told:
                least = min(r for r, state in told)
                for (r, state), share in told.items():
                    if r == least:
                        read = tuple(state[slots[x]] for x in live[r])
                        came[r][read] = came[r].get(read, 0) + as_fraction(share)
            self.assertEqual(made.turn(), slow.turn())
            if not told:
                break
        # Where a turn took a row, the states there, read by the slots of the live locals, are its forward table.
        self.assertEqual([{state: as_share(share) for state, share in table.items()} for table in came], tables)
        self.assertEqual(made.share(), share_along(book, values, row, asked=asked))
        self.assertEqual(run_code(code, values, row), made.share())

    def test_some_books(self):
        for seed in range(250):
            source = source_of(seed)
            book, asked, whole = few_ways_book(source, most=60, rows=30)
            values, row = some_values(source, book), some_row(source, book)
            for end in (asked, num(1)):
                flow = flow_of(book, asked=end)
                self.assert_run(book, flow, packed(book, flow), values, row, end)

    def test_packed_by_other_slots(self):
        for seed in range(60):
            source = source_of(seed)
            book, asked, whole = few_ways_book(source, most=20, rows=20)
            values, row = some_values(source, book), some_row(source, book)
            flow = flow_of(book, asked=asked)
            slots = source.choice(list(all_slots(slow_spans(flow))))
            self.assert_run(book, flow, slow_packed(book, flow, slots), values, row, asked)


if __name__ == "__main__":
    unittest.main()
