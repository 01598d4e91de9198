"""Points 18, 19 and 20: flows, and the locals that are live at each row."""

import inspect
import unittest

from chancetongue import flows
from chancetongue.booktexts import read_book
from chancetongue.exprtexts import read_expression
from chancetongue.flows import ALWAYS, flow_of, live_at
from chancetongue.looking import look
from tests.making import few_ways_book, name, num, op, some_row, some_values, source_of
from tests.slow import slow_flow, slow_known, slow_leads, slow_live, slow_walks, slow_ways

DRAW = ((num(1), num(5)), (num(2), num(6)))


def book_of(*rows):
    book = read_book("\n".join(rows))
    look(book)
    return book


def flow_by(*rows, **more):
    return flow_of(book_of(*rows), **more)


class Flows(unittest.TestCase):
    def test_no_statements(self):
        self.assertEqual(flow_by("fields"), (("end", num(1)),))
        self.assertEqual(flow_by("fields", "times 3", "end"), (("end", num(1)),))

    def test_the_expression_asked(self):
        self.assertEqual(ALWAYS, ("num", 1))
        asked = op("<", name("x"), num(2))
        self.assertEqual(flow_by("fields", "set x 1", asked=asked), (("set", "x", num(1), 1), ("end", asked)))
        self.assertEqual(flow_by("fields", "set x 1", asked=num(0)), (("set", "x", num(1), 1), ("end", num(0))))
        self.assertEqual(flow_by("fields", "set x 1"), flow_by("fields", "set x 1", asked=ALWAYS))

    def test_draw_set_see(self):
        self.assertEqual(
            flow_by("fields f", "draw x from 1 : 5 , 2 : 6", "set y x", "see ( not f )"),
            (("draw", "x", DRAW, 1), ("set", "y", name("x"), 2), ("see", ("not", name("f")), 3), ("end", num(1))),
        )

    def test_if(self):
        self.assertEqual(
            flow_by("fields", "if 7", "see 1", "set x 2", "else", "see 3", "set y 4", "end", "see 5"),
            (
                ("branch", num(7), 1, 3), ("see", num(1), 2), ("set", "x", num(2), 5), ("see", num(3), 4),
                ("set", "y", num(4), 5), ("see", num(5), 6), ("end", num(1)),
            ),
        )

    def test_if_with_one_empty(self):
        self.assertEqual(
            flow_by("fields", "if 7", "else", "see 3", "end", "see 5"),
            (("branch", num(7), 2, 1), ("see", num(3), 2), ("see", num(5), 3), ("end", num(1))),
        )

    def test_if_with_other_empty(self):
        self.assertEqual(
            flow_by("fields", "if 7", "see 3", "else", "end", "see 5"),
            (("branch", num(7), 1, 2), ("see", num(3), 2), ("see", num(5), 3), ("end", num(1))),
        )

    def test_if_with_both_empty(self):
        self.assertEqual(
            flow_by("fields", "if 7", "else", "end", "see 5"),
            (("branch", num(7), 1, 1), ("see", num(5), 2), ("end", num(1))),
        )
        self.assertEqual(flow_by("fields", "if 7", "else", "end"), (("branch", num(7), 1, 1), ("end", num(1))))

    def test_a_block_of_an_empty_times_has_no_rows(self):
        self.assertEqual(
            flow_by("fields", "if 7", "times 2", "end", "else", "see 3", "times 3", "times 1", "end", "end", "end", "see 5"),
            (("branch", num(7), 2, 1), ("see", num(3), 2), ("see", num(5), 3), ("end", num(1))),
        )

    def test_if_at_the_end_of_the_body(self):
        self.assertEqual(
            flow_by("fields", "see 5", "if 7", "see 1", "else", "see 2", "see 3", "end"),
            (
                ("see", num(5), 1), ("branch", num(7), 2, 3), ("see", num(1), 5), ("see", num(2), 4), ("see", num(3), 5),
                ("end", num(1)),
            ),
        )

    def test_if_in_a_blocks_end(self):
        self.assertEqual(
            flow_by(
                "fields", "if 7", "see 1", "if 8", "see 2", "else", "end", "else", "if 9", "else", "see 3", "end", "end",
                "see 4",
            ),
            (
                ("branch", num(7), 1, 4), ("see", num(1), 2), ("branch", num(8), 3, 6), ("see", num(2), 6),
                ("branch", num(9), 6, 5), ("see", num(3), 6), ("see", num(4), 7), ("end", num(1)),
            ),
        )

    def test_if_in_the_middle_of_a_block(self):
        self.assertEqual(
            flow_by("fields", "if 7", "if 8", "see 2", "else", "end", "see 1", "else", "end"),
            (
                ("branch", num(7), 1, 4), ("branch", num(8), 2, 3), ("see", num(2), 3), ("see", num(1), 4),
                ("end", num(1)),
            ),
        )

    def test_times(self):
        for k in (1, 2, 3):
            told = [part for at in range(k) for part in (("set", "x", num(1), 2 * at + 1), ("see", num(2), 2 * at + 2))]
            self.assertEqual(
                flow_by("fields", f"times {k}", "set x 1", "see 2", "end"), (*told, ("end", num(1)))
            )

    def test_times_within_times(self):
        told = flow_by("fields", "times 2", "see 1", "times 3", "see 2", "end", "see 3", "end", "see 4")
        numbers = [1, 2, 2, 2, 3] * 2 + [4]
        self.assertEqual(told[:-1], tuple(("see", num(n), at + 1) for at, n in enumerate(numbers)))
        self.assertEqual(told[-1], ("end", num(1)))

    def test_times_with_an_if(self):
        self.assertEqual(
            flow_by("fields", "times 2", "if 7", "see 1", "else", "see 2", "end", "end"),
            (
                ("branch", num(7), 1, 2), ("see", num(1), 3), ("see", num(2), 3),
                ("branch", num(7), 4, 5), ("see", num(1), 6), ("see", num(2), 6), ("end", num(1)),
            ),
        )
        self.assertEqual(
            flow_by("fields", "times 2", "if 7", "else", "end", "end", "see 3"),
            (("branch", num(7), 1, 1), ("branch", num(7), 2, 2), ("see", num(3), 3), ("end", num(1))),
        )

    def test_times_in_an_if(self):
        self.assertEqual(
            flow_by("fields", "if 7", "times 2", "see 1", "end", "else", "times 2", "see 2", "end", "end", "see 3"),
            (
                ("branch", num(7), 1, 3), ("see", num(1), 2), ("see", num(1), 5), ("see", num(2), 4), ("see", num(2), 5),
                ("see", num(3), 6), ("end", num(1)),
            ),
        )

    def test_eighty_rows(self):
        told = flow_by("fields", *["times 3", "times 3", "times 2"], *["set x 1"] * 4, *["end"] * 3, *["see x"] * 7)
        self.assertEqual(len(told), 80)
        self.assertEqual([row[-1] for row in told[:-1]], list(range(1, 80)))

    def test_some_books(self):
        for seed in range(500):
            book, asked, whole = few_ways_book(source_of(seed))
            told = slow_flow(book, asked)
            self.assertEqual(flow_of(book, asked=asked), told)
            self.assertEqual(flow_of(book), (*told[:-1], ("end", num(1))))
            self.assertTrue(all(n > r for r, row in enumerate(told) for n in slow_leads(row)))

    def test_all_ways_of_a_row_come_along(self):
        for seed in range(300):
            source = source_of(seed)
            book = few_ways_book(source)[0]
            values, row = some_values(source, book), some_row(source, book)
            flow = flow_of(book)
            walks = [walk[-1] for walk in slow_walks(flow, slow_known(book, values, row))]
            ended = [(share, known) for r, share, known in walks if r == len(flow) - 1]
            self.assertEqual(ended, slow_ways(book, values, row))

    def test_arguments(self):
        self.assertEqual(str(inspect.signature(flows.flow_of)), "(book, *, asked=('num', 1))")
        self.assertEqual(str(inspect.signature(flows.live_at)), "(book, rows)")
        book = book_of("fields", "see 2")
        self.assertEqual(live_at(rows=flow_of(book=book), book=book), [(), ()])
        with self.assertRaises(TypeError):
            flow_of(book, num(1))


class Live(unittest.TestCase):
    def assert_live(self, rows, told, asked="1"):
        book = book_of(*rows)
        flow = flow_of(book, asked=read_expression(asked))
        for again in range(2):
            self.assertEqual(live_at(book, flow), told)

    def test_none(self):
        self.assert_live(["fields"], [()])
        self.assert_live(["unknown a from 1 : 1", "fields f", "see a", "see f"], [(), (), ()], asked="( + a f )")

    def test_read_and_set_in_the_same_row(self):
        self.assert_live(["fields", "set x 1", "set x ( + x 1 )", "see x"], [(), ("x",), ("x",), ()])
        self.assert_live(["fields", "set x 1", "draw x from x : 1 , 1 : 2"], [(), ("x",), ()])
        self.assert_live(["fields", "set x 1", "draw x from 1 : x , 1 : 2"], [(), ("x",), ()])

    def test_set_anew_ahead_of_being_read(self):
        self.assert_live(["fields", "set x 1", "set x 2", "see x"], [(), (), ("x",), ()])

    def test_set_and_never_read(self):
        self.assert_live(["fields", "set x 1", "set y 2", "see y"], [(), (), ("y",), ()])

    def test_what_the_end_asks_is_read_there(self):
        rows = ["fields", "set y 1", "set x 2", "see 1"]
        self.assert_live(rows, [(), ("y",), ("x", "y"), ("x", "y")], asked="( + y x )")
        self.assert_live(rows, [(), (), ("x",), ("x",)], asked="( not x )")

    def test_rising(self):
        rows = ["fields", "set b 1", "set aa 1", "set a 1", "see ( + b ( + a aa ) )"]
        self.assert_live(rows, [(), ("b",), ("aa", "b"), ("a", "aa", "b"), ()])

    def test_read_on_one_side_alone(self):
        rows = ["fields", "set x 1", "set y 2", "if 1", "see x", "else", "see y", "end", "see 1"]
        self.assert_live(rows, [(), ("x",), ("x", "y"), ("x",), ("y",), (), ()])

    def test_set_on_both_sides_ahead_of_being_read(self):
        rows = ["fields", "set x 1", "if 1", "set x 2", "else", "draw x from 1 : 3", "end", "see x"]
        self.assert_live(rows, [(), (), (), (), ("x",), ()])

    def test_set_on_one_side_ahead_of_being_read(self):
        rows = ["fields", "set x 1", "if 1", "set x 2", "else", "see 1", "end", "see x"]
        self.assert_live(rows, [(), ("x",), (), ("x",), ("x",), ()])

    def test_whatever_tests_and_weights_are(self):
        self.assert_live(["fields", "set x 1", "if 0", "see x", "else", "end"], [(), ("x",), ("x",), ()])
        self.assert_live(["fields", "set x 1", "see 0", "see x"], [(), ("x",), ("x",), ()])
        self.assert_live(["fields", "set x 1", "draw y from 0 : x", "see ( if 0 x 1 )"], [(), ("x",), ("x",), ()])

    def test_each_place_of_a_draw_reads(self):
        rows = ["fields", "set p 1", "set q 1", "set r 1", "draw x from 1 : p , q : 2 , 1 : ( not r )"]
        self.assert_live(rows, [(), ("p",), ("p", "q"), ("p", "q", "r"), ()])

    def test_along_a_times(self):
        rows = ["fields", "set x 1", "times 2", "see x", "set y x", "end", "see y"]
        self.assert_live(rows, [(), ("x",), ("x",), ("x",), ("x",), ("y",), ()])

    def test_unknowns_and_fields_are_no_locals(self):
        rows = ["unknown a from 1 : 1", "fields f", "set x ( + a f )", "see ( + x ( + a f ) )"]
        self.assert_live(rows, [(), ("x",), ()], asked="( + a f )")

    def test_what_is_told_is_the_askers_own(self):
        book = book_of("fields", "set x 1", "see x")
        flow = flow_of(book)
        live_at(book, flow).append("more")
        self.assertEqual(live_at(book, flow), [(), ("x",), ()])

    def test_some_books(self):
        for seed in range(500):
            book, asked, whole = few_ways_book(source_of(seed), rows=24)
            for end in (asked, num(1)):
                flow = flow_of(book, asked=end)
                self.assertEqual(live_at(book, flow), slow_live(book, flow))


if __name__ == "__main__":
    unittest.main()
