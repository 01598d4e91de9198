"""Points 14, 15, 16 and 17: ways of the unknowns, of a row and of the whole."""

import copy
import inspect
import unittest

from chancetongue import ways
from chancetongue.booktexts import read_book
from chancetongue.errors import TooMany
from chancetongue.exprtexts import read_expression
from chancetongue.looking import look
from chancetongue.ways import MOST, prior_of, ways_of_all, ways_of_row
from tests.making import few_ways_book, name, num, op, some_row, some_values, source_of
from tests.slow import as_share, slow_all, slow_unknowns, slow_ways


def book_of(*rows):
    book = read_book("\n".join(rows))
    look(book)
    return book


def ways_by(rows, values=(), row=(), most=MOST):
    return ways_of_row(book_of(*rows), values, row, most=most)


class Prior(unittest.TestCase):
    def assert_prior(self, rows, told):
        found = prior_of(book_of(*rows))
        self.assertEqual(list(found.items()), told)

    def test_no_unknowns(self):
        self.assert_prior(["fields"], [((), (1, 1))])
        self.assert_prior(["fields f", "see 0"], [((), (1, 1))])

    def test_weights_by_their_sum(self):
        self.assert_prior(["unknown a from 2 : 5 , 4 : 7", "fields"], [((5,), (1, 3)), ((7,), (2, 3))])
        self.assert_prior(["unknown a from 60 : 999", "fields"], [((999,), (1, 1))])
        self.assert_prior(
            ["unknown a from 15 : 3 , 20 : 2 , 24 : 1 , 1 : 0", "fields"],
            [((0,), (1, 60)), ((1,), (2, 5)), ((2,), (1, 3)), ((3,), (1, 4))],
        )

    def test_weights_of_nought_are_left_out(self):
        self.assert_prior(["unknown a from 0 : 1 , 3 : 2 , 0 : 3 , 1 : 4", "fields"], [((2,), (3, 4)), ((4,), (1, 4))])

    def test_weights_all_nought(self):
        self.assert_prior(["unknown a from 0 : 1 , 0 : 2", "fields"], [])
        self.assert_prior(["unknown a from 1 : 1", "unknown b from 0 : 2", "fields"], [])
        self.assert_prior(["unknown a from 0 : 1", "unknown b from 1 : 2", "fields"], [])

    def test_nought_by_what_is_ahead(self):
        self.assert_prior(
            ["unknown a from 1 : 0 , 2 : 1", "unknown b from a : 5 , ( * a 2 ) : 6", "fields"],
            [((1, 5), (2, 9)), ((1, 6), (4, 9))],
        )

    def test_values_in_common_are_added(self):
        self.assert_prior(["unknown a from 1 : 2 , 1 : 0 , 2 : 2", "fields"], [((0,), (1, 4)), ((2,), (3, 4))])
        self.assert_prior(
            ["unknown a from 1 : 0 , 1 : 1 , 1 : 1", "unknown b from 1 : 0 , 1 : ( - 1 1 ) , 2 : a", "fields"],
            [((0, 0), (1, 3)), ((1, 0), (1, 3)), ((1, 1), (1, 3))],
        )

    def test_three_that_hang_on_those_ahead(self):
        self.assert_prior(
            [
                "unknown a from 1 : 2 , 1 : 1", "unknown b from a : a , 1 : 9",
                "unknown c from ( < a b ) : ( + a b ) , ( = a b ) : 0", "fields",
            ],
            [((1, 1, 0), (1, 4)), ((1, 9, 10), (1, 4)), ((2, 2, 0), (1, 3)), ((2, 9, 11), (1, 6))],
        )

    def test_rising_as_tuples_do(self):
        self.assert_prior(
            ["unknown a from 1 : 10 , 1 : 9 , 1 : 100", "unknown b from 1 : 2 , 1 : 1", "fields"],
            [((x, y), (1, 6)) for x in (9, 10, 100) for y in (1, 2)],
        )

    def test_what_is_told_is_the_askers_own(self):
        book = book_of("unknown a from 1 : 0 , 2 : 1", "fields")
        first = prior_of(book)
        kept = dict(first)
        first[(0,)] = (7, 8)
        first[(9,)] = (1, 1)
        self.assertEqual(prior_of(book), kept)
        self.assertIsNot(prior_of(book), prior_of(book))

    def test_some_books(self):
        for seed in range(400):
            book = few_ways_book(source_of(seed))[0]
            told = {}
            for share, values in slow_unknowns(book):
                told[values] = told.get(values, 0) + share
            found = prior_of(book)
            self.assertEqual(list(found.items()), [(values, as_share(told[values])) for values in sorted(told)])


class WaysOfRow(unittest.TestCase):
    def test_no_draws(self):
        self.assertEqual(ways_by(["fields"]), [((1, 1), {})])
        self.assertEqual(ways_by(["fields", "set x 3", "set y ( + x 1 )"]), [((1, 1), {"x": 3, "y": 4})])

    def test_no_way(self):
        self.assertEqual(ways_by(["fields", "see 0"]), [])
        self.assertEqual(ways_by(["fields", "draw x from 0 : 1 , 0 : 2"]), [])
        self.assertEqual(ways_by(["fields", "draw x from 1 : 1 , 2 : 2", "see ( = x 3 )"]), [])
        self.assertEqual(ways_by(["fields", "see 0"], most=0), [])

    def test_weights(self):
        self.assertEqual(
            ways_by(["fields", "draw x from 0 : 1 , 3 : 2 , 0 : 3 , 1 : 4"]), [((3, 4), {"x": 2}), ((1, 4), {"x": 4})]
        )
        self.assertEqual(
            ways_by(["fields", "draw x from 59 : 1 , 1 : 999"]), [((59, 60), {"x": 1}), ((1, 60), {"x": 999})]
        )

    def test_alternatives_of_like_values_are_ways_of_their_own(self):
        self.assertEqual(
            ways_by(["fields", "draw x from 2 : 7 , 1 : ( + 3 4 ) , 3 : 7"]),
            [((1, 3), {"x": 7}), ((1, 6), {"x": 7}), ((1, 2), {"x": 7})],
        )

    def test_weights_and_values_that_hang_on_names(self):
        rows = ["unknown a from 1 : 1", "fields f", "draw x from a : f , f : a", "draw y from x : ( + x f ) , 1 : x"]
        self.assertEqual(
            ways_by(rows, (1,), (2,)),
            [((2, 9), {"x": 2, "y": 4}), ((1, 9), {"x": 2, "y": 2}), ((1, 3), {"x": 1, "y": 3}), ((1, 3), {"x": 1, "y": 1})],
        )
        self.assertEqual(ways_by(rows, (0,), (2,)), [((1, 1), {"x": 0, "y": 0})])
        self.assertEqual(ways_by(rows, (0,), (0,)), [])

    def test_weights_add_up_beyond_999(self):
        self.assertEqual(
            ways_by(["fields", "draw x from 600 : 1 , 600 : 2"]), [((1, 2), {"x": 1}), ((1, 2), {"x": 2})]
        )

    def test_see(self):
        rows = ["fields f", "draw x from 1 : 1 , 2 : 2 , 3 : 3", "see ( < x f )"]
        self.assertEqual(ways_by(rows, (), (1,)), [])
        self.assertEqual(ways_by(rows, (), (3,)), [((1, 6), {"x": 1}), ((1, 3), {"x": 2})])
        self.assertEqual(ways_by(["fields", "see 999"]), [((1, 1), {})])

    def test_if(self):
        rows = ["unknown a from 1 : 1", "fields", "set z 1", "if a", "set x 1", "else", "set y 2", "set z 3", "end", "set w z"]
        for a, told in ((0, {"y": 2, "z": 3, "w": 3}), (1, {"x": 1, "z": 1, "w": 1}), (999, {"x": 1, "z": 1, "w": 1})):
            self.assertEqual(ways_by(rows, (a,)), [((1, 1), told)])

    def test_if_by_what_was_drawn(self):
        rows = ["fields", "draw x from 1 : 1 , 1 : 0", "if x", "draw y from 1 : 1 , 2 : 2", "else", "end", "set z 5"]
        self.assertEqual(
            ways_by(rows),
            [((1, 6), {"x": 1, "y": 1, "z": 5}), ((1, 3), {"x": 1, "y": 2, "z": 5}), ((1, 2), {"x": 0, "z": 5})],
        )

    def test_times(self):
        for k in (1, 2, 3):
            rows = ["fields", "set x 0", f"times {k}", "set x ( + x 2 )", "draw y from 1 : x , 1 : 0", "end"]
            told = ways_by(rows)
            self.assertEqual(len(told), 2 ** k)
            self.assertEqual([share for share, names in told], [(1, 2 ** k)] * 2 ** k)
            self.assertEqual([names for share, names in told], [{"x": 2 * k, "y": y} for y in (2 * k, 0)] * 2 ** (k - 1))

    def test_times_within_times(self):
        rows = ["fields", "set x 0", "times 2", "times 3", "set x ( + x 1 )", "end", "set x ( * x 10 )", "end"]
        self.assertEqual(ways_by(rows), [((1, 1), {"x": 330})])

    def test_order_of_the_draws_alternatives(self):
        rows = ["fields", "draw x from 1 : 9 , 1 : 3", "draw y from 1 : 8 , 1 : 2 , 1 : 5"]
        self.assertEqual(
            ways_by(rows),
            [((1, 6), {"x": x, "y": y}) for x in (9, 3) for y in (8, 2, 5)],
        )

    def test_values_that_cannot_be_by_the_prior(self):
        rows = ["unknown a from 1 : 1", "fields", "draw x from a : a , 1 : 0"]
        self.assertEqual(ways_by(rows, (4,)), [((4, 5), {"x": 4}), ((1, 5), {"x": 0})])
        rows[0] = "unknown a from 0 : 1"
        self.assertEqual(ways_by(rows, (4,)), [((4, 5), {"x": 4}), ((1, 5), {"x": 0})])

    def test_as_many_as_most_and_one_more(self):
        rows = ["fields", "draw x from 1 : 1 , 1 : 1 , 1 : 2", "draw y from 1 : 1 , 1 : 0", "see ( | y ( = x 2 ) )"]
        self.assertEqual(len(ways_by(rows)), 4)
        for most in (4, 5, 6, 5000):
            self.assertEqual(ways_by(rows, most=most), ways_by(rows))
        for most in (0, 1, 2, 3):
            with self.assertRaises(TooMany) as caught:
                ways_by(rows, most=most)
            self.assertEqual(caught.exception.most, most)

    def test_most_counts_ways_that_end_alone(self):
        rows = ["fields", "draw x from 1 : 0 , 1 : 0 , 1 : 1 , 1 : 0", "see x"]
        self.assertEqual(ways_by(rows, most=1), [((1, 4), {"x": 1})])

    def test_most_is_2000_where_left_out(self):
        self.assertEqual(MOST, 2000)
        draw = "draw x from 1 : 1 , 1 : 2"
        book = book_of("fields", *[draw] * 10, "draw x from 1 : 1 , 1 : 2")
        with self.assertRaises(TooMany) as caught:
            ways_of_row(book, (), ())
        self.assertEqual(caught.exception.most, 2000)
        self.assertEqual(len(ways_of_row(book, (), (), most=5000)), 2048)
        four, five = "draw x from 1 : 1 , 1 : 2 , 1 : 3 , 1 : 4", "draw y from 1 : 1 , 1 : 2 , 1 : 3 , 1 : 4 , 1 : 5"
        book = book_of("fields", four, four, five, five, five)
        self.assertEqual(len(ways_of_row(book, (), ())), 2000)

    def test_three_hundred_ways(self):
        four, three = "1 : 0 , 1 : 1 , 1 : 2 , 1 : 3", "1 : 0 , 1 : 1 , 1 : 2"
        book = book_of(
            "fields", f"draw x from {four}", f"draw y from {three}", f"draw u from {four}", "if u", f"draw v from {three}",
            "else", f"draw v from {four}", f"draw w from {four}", "end",
        )
        told = ways_of_row(book, (), (), most=300)
        self.assertEqual(len(told), 300)
        self.assertEqual(told[0], ((1, 768), {"x": 0, "y": 0, "u": 0, "v": 0, "w": 0}))
        self.assertEqual(told[-1], ((1, 144), {"x": 3, "y": 2, "u": 3, "v": 2}))
        with self.assertRaises(TooMany):
            ways_of_row(book, (), (), most=299)
        self.assertEqual(ways_of_all(book, [()], name("v"), at=0, most=300), ((1, 1), (11, 16)))

    def test_bounds(self):
        four = "draw x from 15 : 1 , 15 : 2 , 15 : 3 , 15 : 4"
        book = book_of("fields", four, four, four, four)
        self.assertEqual(ways_of_row(book, (), (), most=256)[-1], ((1, 256), {"x": 4}))
        rows = ["times 3", "times 3", "times 2", "set x 1", "see x", "set y x", "see y", "end", "end", "end", "see x"]
        self.assertEqual(ways_by(["fields", *rows, *["set z y"] * 6]), [((1, 1), {"x": 1, "y": 1, "z": 1})])

    def test_what_is_told_is_the_askers_own(self):
        book = book_of("unknown a from 1 : 1", "fields f", "draw x from 1 : 1 , 1 : 2", "set y 0")
        first = ways_of_row(book, (1,), (2,))
        kept = copy.deepcopy(first)
        first[0][1]["x"] = 77
        self.assertEqual(first[1], kept[1])
        first[1][1].clear()
        first.pop(0)
        self.assertEqual(ways_of_row(book, (1,), (2,)), kept)

    def test_some_books(self):
        longest = 0
        for seed in range(400):
            source = source_of(seed)
            book = few_ways_book(source)[0]
            values, row = some_values(source, book), some_row(source, book)
            kept = [x for x, alts in book[0]] + list(book[1])
            told = [
                (as_share(share), {x: known[x] for x in known if x not in kept})
                for share, known in slow_ways(book, values, row)
            ]
            self.assertEqual(ways_of_row(book, values, row), told)
            self.assertEqual(ways_of_row(book, values, row, most=len(told)), told)
            if told:
                with self.assertRaises(TooMany):
                    ways_of_row(book, values, row, most=len(told) - 1)
            longest = max(longest, len(told))
        self.assertGreater(longest, 30)


BAG = (
    "unknown bag from 1 : 0 , 2 : 1", "fields ball", "if bag", "draw seen from 1 : 0 , 3 : 1", "else",
    "draw seen from 1 : 0 , 1 : 1", "end", "draw kind from 1 : 0 , 1 : 1", "see ( = seen ball )",
)


class WaysOfAll(unittest.TestCase):
    def setUp(self):
        self.book = book_of(*BAG)

    def told(self, rows, ask, **more):
        return ways_of_all(self.book, rows, read_expression(ask), **more)

    def test_no_rows(self):
        self.assertEqual(self.told((), "bag"), ((1, 1), (2, 3)))
        self.assertEqual(self.told([], "( not bag )"), ((1, 1), (1, 3)))
        self.assertEqual(self.told((), "7"), ((1, 1), (1, 1)))
        self.assertEqual(self.told((), "0"), ((1, 1), (0, 1)))

    def test_one_row(self):
        self.assertEqual(self.told(((1,),), "bag"), ((2, 3), (1, 2)))
        self.assertEqual(self.told([(0,)], "bag"), ((1, 3), (1, 6)))

    def test_several_rows(self):
        told = self.told(((1,), (0,), (1,)), "bag")
        self.assertEqual(told, ((13, 96), (3, 32)))
        self.assertEqual(self.told([(1,), (1,), (0,)], "bag"), told)
        self.assertEqual(self.told([(1,)] * 3, "bag", most=16), ((31, 96), (9, 32)))

    def test_an_ask_at_a_row(self):
        rows = ((1,), (0,))
        self.assertEqual(self.told(rows, "( = kind 0 )", at=0), ((5, 24), (5, 48)))
        self.assertEqual(self.told(rows, "( & bag seen )", at=0), ((5, 24), (1, 8)))
        self.assertEqual(self.told(rows, "( & bag seen )", at=1), ((5, 24), (0, 1)))
        self.assertEqual(self.told(rows, "ball", at=1), ((5, 24), (0, 1)))
        self.assertEqual(self.told(rows, "ball", at=0), ((5, 24), (5, 24)))

    def test_conditions(self):
        kind, bag = read_expression("kind"), read_expression("bag")
        rows = [(1,), (0,)]
        for conditions, met in (
            ([(bag, None)], (1, 8)), ([(kind, 0)], (5, 48)), ([(kind, 1)], (5, 48)), ([(kind, 0), (kind, 1)], (5, 96)),
            ([(kind, 0), (kind, 0)], (5, 48)), ([(kind, 1), (("not", kind), 1)], (0, 1)),
            ([(bag, None), (("not", kind), 1), (kind, 0)], (1, 32)), ([(bag, None), (num(1), None)], (1, 8)),
            ([(bag, None), (("not", bag), None)], (0, 1)), ([(bag, 0)], (1, 8)), ([(op("&", bag, kind), 1)], (1, 16)),
        ):
            for made in (tuple, list):
                for order in (conditions, conditions[::-1]):
                    self.assertEqual(self.told(made(rows), "1", conditions=made(order)), (met, met))
                    self.assertEqual(self.told(made(rows), "0", conditions=made(order)), (met, (0, 1)))

    def test_conditions_and_an_ask(self):
        kind = read_expression("kind")
        rows = [(1,), (0,)]
        self.assertEqual(self.told(rows, "bag", conditions=[(kind, 0)]), ((5, 48), (1, 16)))
        self.assertEqual(self.told(rows, "kind", conditions=[(kind, 0)], at=0), ((5, 48), (5, 48)))
        self.assertEqual(self.told(rows, "kind", conditions=[(kind, 0)], at=1), ((5, 48), (5, 96)))
        self.assertEqual(self.told(rows, "( not kind )", conditions=[(kind, 0)], at=0), ((5, 48), (0, 1)))

    def test_no_way_meets_the_conditions(self):
        self.assertEqual(self.told(((1,),), "bag", conditions=((num(0), None),)), ((0, 1), (0, 1)))
        self.assertEqual(self.told(((1,),), "bag", conditions=((num(0), 0),)), ((0, 1), (0, 1)))
        self.assertEqual(self.told(((1,), (2,)), "bag"), ((0, 1), (0, 1)))

    def test_an_empty_prior(self):
        book = book_of("unknown a from 0 : 1", "fields f", "draw x from 1 : 0 , 1 : 1")
        for rows in ((), ((1,),), ((1,), (2,))):
            self.assertEqual(ways_of_all(book, rows, num(1), most=0), ((0, 1), (0, 1)))

    def test_as_many_as_most_and_one_more(self):
        never = ((num(0), None), (num(0), 0))
        for rows, many in (((), 2), (((1,),), 4), (((1,), (0,)), 8), (((1,), (0,), (1,)), 16), (((1,), (2,)), 0), (((2,),), 0)):
            for conditions in ((), never[:1], never if rows else never[:1]):
                for most in (many, many + 1, 5000):
                    told = self.told(rows, "bag", conditions=conditions, most=most)
                    self.assertEqual(told, self.told(rows, "bag", conditions=conditions))
                for most in range(many):
                    with self.assertRaises(TooMany) as caught:
                        self.told(rows, "bag", conditions=conditions, most=most)
                    self.assertEqual(caught.exception.most, most)

    def test_ways_of_unknowns_of_like_values_are_counted_each(self):
        book = book_of("unknown a from 1 : 1 , 1 : 1 , 0 : 2 , 2 : 3", "fields", "draw x from a : 0 , 1 : 1")
        self.assertEqual(ways_of_all(book, (), name("a"), most=3), ((1, 1), (1, 1)))
        self.assertEqual(ways_of_all(book, ((), ()), name("a"), most=12), ((1, 1), (1, 1)))
        for rows, most in (((), 2), (((),), 5), (((), ()), 11)):
            with self.assertRaises(TooMany) as caught:
                ways_of_all(book, rows, name("a"), most=most)
            self.assertEqual(caught.exception.most, most)

    def test_most_is_2000_where_left_out(self):
        book = book_of("fields", "draw x from 1 : 0 , 1 : 1", "draw y from 1 : 1 , 1 : 1 , 1 : 1 , 1 : 1")
        self.assertEqual(ways_of_all(book, ((),) * 3, name("x"), at=2), ((1, 1), (1, 2)))
        with self.assertRaises(TooMany) as caught:
            ways_of_all(book, ((),) * 4, name("x"), at=2)
        self.assertEqual(caught.exception.most, 2000)
        self.assertEqual(ways_of_all(book, ((),) * 4, name("x"), at=3, most=4096), ((1, 1), (1, 2)))
        with self.assertRaises(TooMany):
            ways_of_all(book, ((),) * 4, name("x"), most=4095)

    def test_far_too_many(self):
        book = book_of("fields", *["draw x from 1 : 0 , 1 : 1 , 1 : 2 , 1 : 3"] * 4)
        with self.assertRaises(TooMany) as caught:
            ways_of_all(book, ((),) * 16, name("x"), at=0, most=5000)
        self.assertEqual(caught.exception.most, 5000)

    def test_a_row_without_ways_makes_the_whole_few(self):
        book = book_of("fields f", "see f", *["draw x from 1 : 0 , 1 : 1 , 1 : 2 , 1 : 3"] * 4)
        self.assertEqual(ways_of_all(book, ((1,), (1,), (0,)), name("x"), at=0, most=0), ((0, 1), (0, 1)))

    def test_what_is_handed_in_stays(self):
        rows, conditions = [(1,), (0,)], [(name("bag"), None), (name("kind"), 1)]
        first = self.told(rows, "bag", conditions=conditions)
        self.assertEqual((rows, conditions), ([(1,), (0,)], [(name("bag"), None), (name("kind"), 1)]))
        self.assertEqual(self.told(rows, "bag", conditions=conditions), first)
        self.assertIsInstance(first, tuple)

    def test_some_books(self):
        met_some = 0
        for seed in range(2000):
            source = source_of(seed)
            book, at_row, whole = few_ways_book(source, most=12)
            rows = [some_row(source, book) for k in range(source.randrange(0, 4))]
            places = [None, *range(len(rows))]
            conditions = [
                (whole if at is None else at_row, at) for at in source.choices(places, k=source.randrange(0, 4))
            ]
            at = source.choice(places)
            ask = whole if at is None else ("not", at_row) if source.randrange(2) else at_row
            many, met, so = slow_all(book, rows, ask, conditions, at)
            told = (as_share(met), as_share(so))
            self.assertEqual(ways_of_all(book, rows, ask, conditions=conditions, at=at, most=many), told)
            if many:
                with self.assertRaises(TooMany):
                    ways_of_all(book, rows, ask, conditions=conditions, at=at, most=many - 1)
            met_some += 0 < so < met
        self.assertGreater(met_some, 40)

    def test_arguments(self):
        for word, told in (
            ("prior_of", "(book)"), ("ways_of_row", "(book, values, row, *, most=2000)"),
            ("ways_of_all", "(book, rows, ask, *, conditions=(), at=None, most=2000)"),
        ):
            self.assertEqual(str(inspect.signature(getattr(ways, word))), told)
        self.assertEqual(prior_of(book=self.book), {(0,): (1, 3), (1,): (2, 3)})
        self.assertEqual(ways_of_row(row=(1,), values=(1,), book=self.book), ways_of_row(self.book, (1,), (1,)))
        self.assertEqual(ways_of_all(ask=num(1), rows=(), book=self.book), ((1, 1), (1, 1)))
        with self.assertRaises(TypeError):
            ways_of_row(self.book, (1,), (1,), 3)
        with self.assertRaises(TypeError):
            ways_of_all(self.book, (), num(1), ())


if __name__ == "__main__":
    unittest.main()
