"""Point 33: the share by an engine, without a case."""

import inspect
import unittest
import unittest.mock

from chancetongue import engines
from chancetongue.answers import answer_of
from chancetongue.engines import by_engine
from chancetongue.errors import NoAsk, NoEngine, NoRow, NoWays, TooMany
from chancetongue.ways import ways_of_all
from tests.checking import Refusing, case_of
from tests.making import few_ways_book, name, num, some_row, source_of
from tests.slowcase import slow_answer
from tests.somebooks import BAG, BARE, EMPTY, PICK, ask_at, book_of, ex, place_of

WORDS = ("ways", "tables", "worths", "machine")
LOST = ex("( + 1 zz )")
# Draws, sees, ifs and times, locals that are set anew and whose slots are used again.
ROUNDS = book_of(
    "unknown a from 1 : 1 , 2 : 2 , 3 : 3", "unknown b from a : 0 , 1 : a", "fields f g", "set sum 0", "times 3",
    "draw p from a : 0 , ( + b 1 ) : 1", "if p", "set sum ( + sum f )", "draw q from 1 : p , 1 : sum", "see ( < q 9 )",
    "else", "set q b", "end", "set sum ( + sum q )", "end", "draw r from 1 : ( = sum g ) , 1 : 1", "see r",
)


class Engines(Refusing):
    def assert_share(self, book, rows, ask, told, conditions=(), at=None):
        case = case_of(book, *[("put", row) for row in rows], *[("set", E, place) for E, place in conditions])
        if told is None:
            with self.assertRaises(NoWays):
                answer_of(case, ask, at=at)
        else:
            self.assertEqual(answer_of(case, ask, at=at), told)
        for word in WORDS:
            with self.subTest(word=word):
                if told is None:
                    self.assert_refused(NoWays(), by_engine, word, book, rows, ask, conditions=conditions, at=at)
                else:
                    self.assertEqual(by_engine(word, book, rows, ask, conditions=conditions, at=at), told)

    def test_no_data(self):
        self.assert_share(BAG, (), name("bag"), (2, 3))
        self.assert_share(BARE, (), num(1), (1, 1))
        self.assert_share(BARE, (), num(0), (0, 1))
        self.assert_share(EMPTY, (), num(1), None)

    def test_rows_and_conditions(self):
        rows = ((1,), (0,))
        self.assert_share(BAG, rows, name("bag"), (3, 5))
        self.assert_share(BAG, rows, name("kind"), (1, 2), at=0)
        self.assert_share(BAG, rows, ex("( & bag kind )"), (3, 10), at=1)
        self.assert_share(BAG, rows, name("bag"), (1, 1), conditions=((name("bag"), None),))
        self.assert_share(BAG, rows, name("bag"), (3, 4), conditions=((ex("( | bag kind )"), 0),))
        both = ((ex("( | bag kind )"), 0), (ex("( | bag kind )"), 1), (ex("( < bag 2 )"), None))
        self.assert_share(BAG, rows, name("bag"), (6, 7), conditions=both)
        self.assert_share(BAG, rows, name("kind"), (4, 7), conditions=both, at=1)
        self.assert_share(BARE, ((), ()), name("x"), (3, 4), at=1)
        self.assert_share(BARE, ((), ()), ex("( = x 2 )"), (2, 3), conditions=((name("x"), 1),), at=1)

    def test_no_way_is_left(self):
        self.assert_share(BAG, ((5,),), name("bag"), None)
        self.assert_share(BAG, ((5,),), name("kind"), None, at=0)
        self.assert_share(BAG, (), name("bag"), None, conditions=((num(0), None),))
        self.assert_share(BAG, ((1,),), name("bag"), None, conditions=((ex("( not seen )"), 0),))
        self.assert_share(EMPTY, ((1,),), name("x"), None, at=0)

    def test_draws_sees_ifs_and_times(self):
        for seed in range(12):
            source = source_of(seed)
            rows = tuple((source.randrange(3), source.randrange(12)) for k in range(source.randrange(1, 4)))
            places = [None, *range(len(rows))]
            asks = {None: [ex("( < 1 a )"), ex("b"), ex("( = a b )")]}
            for place in places[1:]:
                asks[place] = [ex("( < sum 3 )"), ex("( = q b )"), ex("( & r ( < p a ) )"), ex("( < 2 q )")]
            conditions = tuple((source.choice(asks[at]), at) for at in source.choices(places, k=source.randrange(3)))
            for at in places:
                ask = source.choice(asks[at])
                told = slow_answer(ROUNDS, dict(enumerate(rows)), dict(enumerate(conditions)), ask, at)
                self.assert_share(ROUNDS, rows, ask, told, conditions, at)

    def test_some_books(self):
        answered = 0
        for seed in range(250):
            source = source_of(seed)
            book = few_ways_book(source, most=30, rows=30)[0]
            rows = tuple(some_row(source, book) for k in range(source.randrange(4)))
            places = [place_of(source, range(len(rows))) for k in range(source.randrange(3))]
            conditions = tuple((ask_at(source, book, place), place) for place in places)
            for at in (None, *range(len(rows))):
                ask = ask_at(source, book, at)
                told = slow_answer(book, dict(enumerate(rows)), dict(enumerate(conditions)), ask, at)
                self.assert_share(book, rows, ask, told, conditions, at)
                answered += told is not None
        self.assertGreater(answered, 250)

    def test_more_ways_of_the_whole_than_can_be_gone_through(self):
        book = book_of(
            "unknown a from 1 : 0 , 1 : 1", "fields f", "draw x from 1 : 0 , 1 : 1 , 1 : 2 , 1 : a",
            "draw y from 1 : 0 , 1 : 1 , 1 : x", "draw z from 1 : 0 , 1 : 1 , 1 : f",
        )
        rows = ((1,), (2,), (0,), (3,), (5,), (8,))
        with self.assertRaises(TooMany):
            ways_of_all(book, rows, name("a"))
        ask = ex("( & ( < 1 z ) ( < y x ) )")
        conditions = ((ex("( < x 2 )"), 3), (name("z"), 4), (ex("( | a 1 )"), None))
        told = slow_answer(book, dict(enumerate(rows)), dict(enumerate(conditions)), ask, 3)
        self.assert_share(book, rows, ask, told, conditions, 3)
        self.assert_share(book, rows, name("a"), slow_answer(
            book, dict(enumerate(rows)), dict(enumerate(conditions)), name("a"),
        ), conditions)

    def test_a_row_of_three_hundred_ways(self):
        four, three = "1 : 0 , 1 : 1 , 1 : 2 , 1 : 3", "1 : 0 , 1 : 1 , 1 : 2"
        book = book_of(
            "fields", f"draw x from {four}", f"draw y from {three}", f"draw u from {four}", "if u", f"draw v from {three}",
            "else", f"draw v from {four}", f"draw w from {four}", "end",
        )
        self.assert_share(book, ((), ()), name("v"), (11, 16), at=1)

    def test_refused_in_order(self):
        rows = ((1,), (0,))
        for word in ("", "way", "Ways", "ways ", "table", "engine", "ask", "ways\n"):
            self.assert_refused(NoEngine(word), by_engine, word, BAG, rows, LOST, at=7)
            self.assert_refused(NoEngine(word), by_engine, word, EMPTY, (), num(1))
            self.assert_refused(NoEngine(word), by_engine, word, BAG, rows, num(1))
        for word in WORDS:
            for at in (2, -1, -2, True, False):
                self.assert_refused(NoRow(at), by_engine, word, BAG, rows, LOST, at=at)
            self.assert_refused(NoRow(0), by_engine, word, EMPTY, (), num(1), at=0)
            self.assert_refused(NoAsk(2), by_engine, word, BAG, rows, LOST, at=1)
            self.assert_refused(NoAsk(2), by_engine, word, BAG, rows, LOST)
            self.assert_refused(NoAsk(0), by_engine, word, BAG, rows, name("kind"))
            self.assert_refused(NoAsk(2), by_engine, word, EMPTY, rows, LOST)
            self.assert_refused(NoAsk(2), by_engine, word, BAG, rows, LOST, conditions=((num(0), None),))
            self.assert_refused(NoWays(), by_engine, word, BAG, rows, name("bag"), conditions=((num(0), None),))

    def test_each_word_reckons_in_its_own_way(self):
        reckoners = {"ways": "ended_ways", "tables": "share_along", "worths": "worths_of", "machine": "run_code"}
        for word in WORDS:
            for other, reckoner in reckoners.items():
                with unittest.mock.patch.object(engines, reckoner, side_effect=getattr(engines, reckoner)) as called:
                    by_engine(word, BAG, ((1,), (0,), (1,)), name("kind"), at=1)
                # Three rows by two values, and the row asked at once more.
                self.assertEqual(called.call_count, 8 if other == word else 0)

    def test_what_is_handed_in_stays(self):
        rows, conditions = [(1,), (0,)], [(name("bag"), None), (name("kind"), 1)]
        for word in WORDS:
            for k in range(2):
                self.assertEqual(by_engine(word, BAG, rows, name("kind"), conditions=conditions, at=1), (1, 1))
        self.assertEqual((rows, conditions), ([(1,), (0,)], [(name("bag"), None), (name("kind"), 1)]))

    def test_arguments(self):
        told = "(word, book, rows, ask, *, conditions=(), at=None)"
        self.assertEqual(str(inspect.signature(engines.by_engine)), told)
        self.assertEqual(by_engine(ask=name("bag"), rows=((1,),), book=BAG, word="tables"), (3, 4))
        self.assertEqual(by_engine("ways", PICK, ((1,),), name("a"), at=0, conditions=()), (1, 2))
        with self.assertRaises(TypeError):
            by_engine("ways", BAG, (), num(1), ())


if __name__ == "__main__":
    unittest.main()
