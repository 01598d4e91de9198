"""Points 32 and 35: answers, spreads, means, mixtures, and answers without one datum."""

import inspect
import unittest

from chancetongue import answers
from chancetongue.answers import answer_of, answer_without, mean_of, mixture_of, spread_of
from chancetongue.cases import Case
from chancetongue.errors import NoAsk, NoDatum, NoRow, NoWays
from chancetongue.flows import ALWAYS
from chancetongue.ways import ways_of_all
from tests.checking import Refusing, case_of, some_case
from tests.making import name, num, source_of
from tests.slow import as_fraction, as_share
from tests.slowcase import slow_answer, slow_mixture, slow_spread, state_of
from tests.somebooks import BAG, BARE, EMPTY, PICK, ask_at, ex, small_book

LOST = ex("( + 1 zz )")


class Answers(Refusing):
    def assert_answers(self, case, *told):
        for text, at, given, share in told:
            with self.subTest(ask=text, at=at, given=given):
                more = {} if given is None else {"given": ex(given)}
                self.assertEqual(answer_of(case, ex(text), at=at, **more), share)

    def test_no_data(self):
        self.assert_answers(
            Case(BAG), ("bag", None, None, (2, 3)), ("( not bag )", None, None, (1, 3)), ("7", None, None, (1, 1)),
            ("0", None, None, (0, 1)), ("bag", None, "bag", (1, 1)), ("bag", None, "( not bag )", (0, 1)),
            ("bag", None, "5", (2, 3)),
        )

    def test_rows(self):
        self.assert_answers(case_of(BAG, ("put", (1,))), ("bag", None, None, (3, 4)))
        self.assert_answers(case_of(BAG, ("put", (1,)), ("put", (0,))), ("bag", None, None, (3, 5)))
        case = case_of(BAG, ("put", (1,)), ("put", (0,)))
        case.change(1, (1,))
        self.assert_answers(case, ("bag", None, None, (9, 11)))
        case.take(0)
        self.assert_answers(case, ("bag", None, None, (3, 4)))

    def test_at_a_row(self):
        case = case_of(BAG, ("put", (1,)), ("put", (0,)))
        self.assert_answers(
            case, ("kind", 0, None, (1, 2)), ("seen", 0, None, (1, 1)), ("seen", 1, None, (0, 1)),
            ("( & bag kind )", 1, None, (3, 10)), ("bag", 1, None, (3, 5)), ("ball", 0, None, (1, 1)),
            ("( = kind bag )", 0, None, (1, 2)), ("( = kind bag )", 0, "kind", (3, 5)), ("bag", 0, "kind", (3, 5)),
            ("kind", 0, "( | bag kind )", (5, 8)), ("bag", 0, "( | bag kind )", (3, 4)),
        )

    def test_conditions(self):
        rows = (("put", (1,)), ("put", (0,)))
        self.assert_answers(
            case_of(BAG, *rows, ("set", name("bag"), None)), ("bag", None, None, (1, 1)), ("kind", 0, None, (1, 2)),
        )
        self.assert_answers(
            case_of(BAG, *rows, ("set", ex("( | bag kind )"), 0)), ("bag", None, None, (3, 4)), ("kind", 0, None, (5, 8)),
            ("kind", 1, None, (1, 2)), ("bag", 1, None, (3, 4)), ("bag", None, "( not bag )", (0, 1)),
        )
        self.assert_answers(
            case_of(BAG, *rows, ("set", ex("( | bag kind )"), 0), ("set", ex("( | bag kind )"), 1)),
            ("bag", None, None, (6, 7)), ("kind", 0, None, (4, 7)),
        )
        self.assert_answers(
            case_of(BAG, ("set", ex("( < bag 1 )"), None)), ("bag", None, None, (0, 1)), ("( not bag )", None, None, (1, 1)),
        )

    def test_answers_behind_a_drop_and_a_back(self):
        case = case_of(BAG, ("put", (1,)), ("set", name("bag"), None))
        case.drop(0)
        self.assert_answers(case, ("bag", None, None, (3, 4)))
        case.back()
        self.assert_answers(case, ("bag", None, None, (1, 1)))

    def test_a_row_asked_at_counts_once(self):
        case = case_of(PICK, ("put", (0,)), ("put", (1,)), ("put", (0,)))
        for at in (None, 0, 1, 2):
            self.assert_answers(case, ("a", at, None, (1, 1)), ("b", at, None, (3, 4)))

    def test_a_number_of_a_row_is_not_its_place(self):
        case = case_of(BAG, ("put", (1,)), ("put", (0,)), ("put", (0,)), ("take", 0), ("set", ex("( | bag kind )"), 2))
        self.assertEqual(answer_of(case, name("kind"), at=2), as_share(slow_spread(
            BAG, case.rows(), case.conditions(), name("kind"), 2
        )[1]))
        self.assertEqual(answer_of(case, name("kind"), at=1), (1, 2))

    def test_no_unknowns(self):
        case = case_of(BARE, ("put", ()), ("put", ()))
        self.assert_answers(
            case, ("1", None, None, (1, 1)), ("0", None, None, (0, 1)), ("x", 0, None, (3, 4)), ("( = x 2 )", 1, "x", (2, 3)),
        )

    def test_refused_in_order(self):
        case = case_of(BAG, ("put", (1,)), ("put", (1,)), ("take", 0))
        empty = Case(EMPTY)
        barred = case_of(BAG, ("put", (1,)), ("set", num(0), None))
        for at in (0, 2, -1, -2, True, False):
            self.assert_refused(NoRow(at), answer_of, case, LOST, at=at, given=LOST)
            self.assert_refused(NoRow(at), spread_of, case, LOST, at=at, given=LOST)
            self.assert_refused(NoRow(at), mean_of, case, LOST, at=at, given=LOST)
            self.assert_refused(NoRow(at), mixture_of, case, LOST, at=at)
        self.assert_refused(NoRow(0), answer_of, empty, LOST, at=0)
        for one, at in ((case, None), (case, 1), (empty, None), (barred, None), (barred, 0)):
            for call in (answer_of, spread_of, mean_of):
                self.assert_refused(NoAsk(2), call, one, LOST, at=at, given=name("zz"))
                self.assert_refused(NoAsk(0), call, one, num(1), at=at, given=name("zz"))
                self.assert_refused(NoAsk(2), call, one, LOST, at=at)
            self.assert_refused(NoAsk(2), mixture_of, one, LOST, at=at)
        for one, at in ((empty, None), (barred, None), (barred, 0)):
            for call in (answer_of, spread_of, mean_of):
                self.assert_refused(NoWays(), call, one, num(1), at=at)
                self.assert_refused(NoWays(), call, one, num(1), at=at, given=num(0))
            self.assert_refused(NoWays(), mixture_of, one, num(1), at=at)
        self.assert_refused(NoAsk(0), answer_of, case, name("kind"))
        self.assert_refused(NoAsk(0), answer_of, case, num(1), given=name("kind"))

    def test_the_given_alone_leaves_no_way(self):
        case = case_of(BAG, ("put", (1,)))
        for at, given in ((None, num(0)), (0, num(0)), (0, ex("( not seen )")), (None, ex("( = bag 5 )"))):
            for call in (answer_of, spread_of, mean_of):
                self.assert_refused(NoWays(), call, case, num(1), at=at, given=given)

    def test_no_way_by_rows_and_conditions(self):
        for deeds in (
            [("put", (5,))], [("put", (1,)), ("set", ex("( not seen )"), 0)],
            [("set", name("bag"), None), ("set", ex("( not bag )"), None)],
            [("put", (1,)), ("set", name("bag"), 0), ("set", ex("( not bag )"), None)],
        ):
            case = case_of(BAG, *deeds)
            for call in (answer_of, spread_of, mean_of, mixture_of):
                self.assert_refused(NoWays(), call, case, num(1))
                self.assert_refused(NoWays(), call, case, name("bag"))
                if len(case):
                    self.assert_refused(NoWays(), call, case, name("kind"), at=0)
            while case.back():
                pass
            self.assertEqual(answer_of(case, name("bag")), (2, 3))

    def test_asks_change_nothing(self):
        case = case_of(BAG, ("put", (1,)), ("put", (0,)), ("set", ex("( | bag kind )"), 0))
        ahead, nodes = state_of(case), case.nodes()
        first = (answer_of(case, name("bag")), spread_of(case, name("kind"), at=0), mixture_of(case, name("kind"), at=1))
        answer_without(case, ("row", 0), name("bag"))
        answer_without(case, ("given", 0), name("bag"))
        mean_of(case, name("bag"))
        self.assertEqual((state_of(case), case.nodes()), (ahead, nodes))
        self.assertEqual(
            (answer_of(case, name("bag")), spread_of(case, name("kind"), at=0), mixture_of(case, name("kind"), at=1)), first,
        )

    def test_arguments(self):
        for word, told in (
            ("answer_of", "(case, ask, *, at=None, given=('num', 1))"),
            ("spread_of", "(case, expression, *, at=None, given=('num', 1))"),
            ("mean_of", "(case, expression, *, at=None, given=('num', 1))"),
            ("mixture_of", "(case, ask, *, at=None)"), ("answer_without", "(case, datum, ask, *, at=None)"),
        ):
            self.assertEqual(str(inspect.signature(getattr(answers, word))), told)
        case = case_of(BAG, ("put", (1,)))
        self.assertEqual(answer_of(given=ALWAYS, at=0, ask=name("bag"), case=case), (3, 4))
        self.assertEqual(spread_of(expression=name("bag"), case=case), {0: (1, 4), 1: (3, 4)})
        self.assertEqual(mean_of(expression=name("bag"), case=case), (3, 4))
        self.assertEqual(mixture_of(ask=name("bag"), case=case)[0], ((0,), (1, 4), (0, 1)))
        self.assertEqual(answer_without(ask=name("bag"), datum=("row", 0), case=case), (2, 3))
        for call in (answer_of, spread_of, mean_of, mixture_of):
            with self.assertRaises(TypeError):
                call(case, num(1), 0)
        with self.assertRaises(TypeError):
            answer_without(case, ("row", 0), num(1), None)


class Spreads(Refusing):
    def assert_spread(self, case, text, told, **more):
        found = spread_of(case, ex(text), **more)
        self.assertEqual(list(found.items()), told)
        mean = sum((value * upper / lower for value, (upper, lower) in told), 0)
        upper, lower = mean_of(case, ex(text), **more)
        self.assertAlmostEqual(upper / lower, mean)

    def test_of_the_whole(self):
        case = Case(PICK)
        self.assert_spread(case, "a", [(0, (1, 3)), (1, (1, 3)), (2, (1, 3))])
        self.assert_spread(case, "( + a b )", [(0, (1, 12)), (1, (1, 3)), (2, (1, 3)), (3, (1, 4))])
        self.assert_spread(case, "( - 0 a )", [(0, (1, 3)), (998, (1, 3)), (999, (1, 3))])
        self.assert_spread(case, "17", [(17, (1, 1))])
        self.assert_spread(case, "a", [(1, (1, 2)), (2, (1, 2))], given=name("a"))
        case.put((1,))
        self.assert_spread(case, "a", [(0, (1, 2)), (2, (1, 2))])
        case.set_condition(ex("( < a b )"))
        self.assert_spread(case, "( + a b )", [(1, (1, 1))])

    def test_at_a_row(self):
        case = case_of(PICK, ("put", (1,)))
        self.assert_spread(case, "x", [(0, (3, 8)), (1, (3, 8)), (2, (1, 4))], at=0)
        self.assert_spread(case, "x", [(0, (1, 8)), (1, (3, 8)), (2, (1, 2))], at=0, given=name("a"))
        self.assert_spread(case, "( + y 5 )", [(5, (1, 2)), (6, (1, 2))], at=0)
        self.assert_spread(case, "f", [(1, (1, 1))], at=0)
        case.set_condition(ex("( = x b )"), at=0)
        self.assert_spread(case, "x", [(0, (1, 3)), (1, (2, 3))], at=0)

    def test_means(self):
        case = Case(PICK)
        self.assertEqual(mean_of(case, ex("( + a b )")), (7, 4))
        self.assertEqual(mean_of(case, ex("a"), given=name("a")), (3, 2))
        self.assertEqual(mean_of(case, num(999)), (999, 1))
        self.assertEqual(mean_of(case, num(0)), (0, 1))
        case.put((1,))
        self.assertEqual(mean_of(case, ex("( * 100 x )"), at=0), (175, 2))
        self.assertEqual(mean_of(case, name("x"), at=0, given=name("a")), (11, 8))

    def test_what_is_told_is_the_askers_own(self):
        case = case_of(BAG, ("put", (1,)))
        spread_of(case, name("bag")).clear()
        mixture_of(case, name("bag")).clear()
        self.assertEqual(spread_of(case, name("bag")), {0: (1, 4), 1: (3, 4)})
        self.assertEqual(mixture_of(case, name("bag")), [((0,), (1, 4), (0, 1)), ((1,), (3, 4), (1, 1))])


class Mixtures(Refusing):
    def test_of_the_whole(self):
        self.assertEqual(mixture_of(Case(BAG), name("bag")), [((0,), (1, 3), (0, 1)), ((1,), (2, 3), (1, 1))])
        case = case_of(BAG, ("put", (1,)), ("put", (0,)))
        self.assertEqual(mixture_of(case, num(1)), [((0,), (2, 5), (1, 1)), ((1,), (3, 5), (1, 1))])

    def test_at_a_row(self):
        case = case_of(BAG, ("put", (1,)), ("put", (0,)), ("set", ex("( | bag kind )"), 0))
        self.assertEqual(mixture_of(case, name("kind"), at=0), [((0,), (1, 4), (1, 1)), ((1,), (3, 4), (1, 2))])
        self.assertEqual(mixture_of(case, name("kind"), at=1), [((0,), (1, 4), (1, 2)), ((1,), (3, 4), (1, 2))])

    def test_values_of_a_share_above_nought_alone(self):
        case = case_of(PICK, ("put", (1,)), ("set", name("b"), None))
        self.assertEqual(mixture_of(case, ex("( < a 1 )")), [((0, 1), (1, 2), (1, 1)), ((2, 1), (1, 2), (0, 1))])
        case.set_condition(ex("( = x 2 )"), at=0)
        self.assertEqual(mixture_of(case, name("y"), at=0), [((2, 1), (1, 1), (1, 2))])

    def test_no_unknowns(self):
        self.assertEqual(mixture_of(Case(BARE), num(1)), [((), (1, 1), (1, 1))])
        self.assertEqual(mixture_of(case_of(BARE, ("put", ())), name("x"), at=0), [((), (1, 1), (3, 4))])


class Without(Refusing):
    def setUp(self):
        self.case = case_of(
            BAG, ("put", (1,)), ("put", (0,)), ("set", ex("( | bag kind )"), 0), ("set", ex("( < bag 5 )"), None),
            ("set", ex("( | bag kind )"), 1),
        )

    def told(self, datum, text="bag", at=None):
        return answer_without(self.case, datum, ex(text), at=at)

    def test_a_row_and_what_is_said_at_it(self):
        self.assertEqual(answer_of(self.case, name("bag")), (6, 7))
        self.assertEqual(self.told(("row", 0)), (2, 3))
        self.assertEqual(self.told(("row", 1)), (6, 7))
        self.assertEqual(self.told(("row", 1), "kind", 0), (4, 7))
        self.assertEqual(self.told(("row", 0), "kind", 1), (2, 3))

    def test_a_condition(self):
        self.assertEqual(self.told(("given", 0)), (3, 4))
        self.assertEqual(self.told(("given", 1)), (6, 7))
        self.assertEqual(self.told(("given", 2)), (3, 4))
        self.assertEqual(self.told(("given", 2), "kind", 1), (1, 2))
        self.assertEqual(self.told(("given", 0), "kind", 1), (5, 8))
        self.assertEqual(self.told(("given", 0), "kind", 0), (1, 2))

    def test_a_condition_of_the_whole(self):
        case = case_of(BAG, ("put", (1,)), ("set", name("bag"), None))
        self.assertEqual(answer_without(case, ("given", 0), name("bag")), (3, 4))
        self.assertEqual(answer_without(case, ("row", 0), name("bag")), (1, 1))
        self.assertEqual(answer_without(case, ("given", 0), name("kind"), at=0), (1, 2))

    def test_where_no_way_is_left_with_it(self):
        case = case_of(BAG, ("put", (1,)), ("put", (5,)), ("set", name("bag"), None), ("set", ex("( not seen )"), 0))
        self.assert_refused(NoWays(), answer_without, case, ("row", 0), name("bag"))
        self.assert_refused(NoWays(), answer_without, case, ("row", 1), name("bag"))
        case.take(0)
        self.assertEqual(answer_without(case, ("row", 1), ex("( not bag )")), (0, 1))

    def test_refused_in_order(self):
        for at in (2, -1, True):
            self.assert_refused(NoRow(at), answer_without, self.case, ("jump", 1), LOST, at=at)
        for datum in (
            ("row", 2), ("row", -1), ("given", 3), ("given", -1), ("jump", 0), ("", 0), ("rows", 0), ("node", 0), ("row", 0),
            ("row", True), ("given", False),
        ):
            self.assert_refused(NoDatum(datum), answer_without, self.case, datum, LOST, at=0)
        self.assert_refused(NoDatum(("row", 2)), answer_without, self.case, ("row", 2), LOST)
        self.assert_refused(NoAsk(2), answer_without, self.case, ("row", 1), LOST, at=0)
        self.assert_refused(NoAsk(0), answer_without, self.case, ("row", 1), name("kind"))
        self.case.set_condition(num(0))
        self.assert_refused(NoAsk(2), answer_without, self.case, ("row", 1), LOST, at=0)
        self.assert_refused(NoWays(), answer_without, self.case, ("row", 1), name("kind"), at=0)
        self.assertEqual(answer_without(self.case, ("given", 3), name("bag")), (6, 7))

    def test_what_was_taken_is_no_datum(self):
        self.case.take(0)
        for datum in (("row", 0), ("given", 0)):
            self.assert_refused(NoDatum(datum), answer_without, self.case, datum, name("bag"))
        self.case.drop(1)
        self.assert_refused(NoDatum(("given", 1)), answer_without, self.case, ("given", 1), name("bag"))
        self.case.back()
        self.case.back()
        self.assertEqual(self.told(("row", 0)), (2, 3))

    def test_the_case_stands_as_it_stood(self):
        ahead, nodes = state_of(self.case), self.case.nodes()
        for datum in (("row", 0), ("given", 0), ("given", 1)):
            self.told(datum)
        for datum in (("row", 7), ("jump", 1)):
            self.assert_refused(NoDatum(datum), answer_without, self.case, datum, name("bag"))
        self.assertEqual((state_of(self.case), self.case.nodes()), (ahead, nodes))


class SomeCases(unittest.TestCase):
    def assert_like(self, case, book, ask, at, given):
        rows, conditions = case.rows(), case.conditions()
        spread = slow_spread(book, rows, conditions, ask, at, given)
        if spread is None:
            for call in (answer_of, spread_of, mean_of):
                with self.assertRaises(NoWays):
                    call(case, ask, at=at, given=given)
            return 0
        self.assertEqual(answer_of(case, ask, at=at, given=given), slow_answer(book, rows, conditions, ask, at, given))
        told = [(value, as_share(share)) for value, share in spread.items()]
        self.assertEqual(list(spread_of(case, ask, at=at, given=given).items()), told)
        mean = as_share(sum(value * share for value, share in spread.items()))
        self.assertEqual(mean_of(case, ask, at=at, given=given), mean)
        if given == ALWAYS:
            self.assertEqual(mixture_of(case, ask, at=at), slow_mixture(book, rows, conditions, ask, at))
        return 1

    def assert_without(self, case, book, ask, at):
        for datum in [*[("row", n) for n in case.rows()], *[("given", n) for n in case.conditions()]]:
            rows, conditions = case.rows(), case.conditions()
            if datum == ("row", at):
                continue
            if datum[0] == "row":
                del rows[datum[1]]
                conditions = {n: conditions[n] for n in conditions if conditions[n][1] != datum[1]}
            else:
                del conditions[datum[1]]
            told = slow_answer(book, rows, conditions, ask, at)
            if told is None:
                with self.assertRaises(NoWays):
                    answer_without(case, datum, ask, at=at)
            else:
                self.assertEqual(answer_without(case, datum, ask, at=at), told)

    def test_some_cases(self):
        answered = 0
        for seed in range(250):
            source = source_of(seed)
            book = small_book(source)
            case = some_case(source, book, source.randrange(6))
            for at in (None, *case.rows()):
                ask, given = ask_at(source, book, at), ask_at(source, book, at)
                for one in (ALWAYS, given):
                    answered += self.assert_like(case, book, ask, at, one)
                self.assert_without(case, book, ask, at)
        self.assertGreater(answered, 400)

    def test_the_ways_of_the_whole(self):
        answered = 0
        for seed in range(250):
            source = source_of(seed)
            book = small_book(source, most=8)
            case = some_case(source, book, source.randrange(5))
            numbers = list(case.rows())
            places = {number: place for place, number in enumerate(numbers)}
            conditions = [(E, None if at is None else places[at]) for E, at in case.conditions().values()]
            for at in (None, *numbers):
                ask = ask_at(source, book, at)
                met, so = ways_of_all(
                    book, list(case.rows().values()), ask, conditions=conditions, most=10 ** 6,
                    at=None if at is None else places[at],
                )
                if met == (0, 1):
                    with self.assertRaises(NoWays):
                        answer_of(case, ask, at=at)
                else:
                    answered += 1
                    self.assertEqual(answer_of(case, ask, at=at), as_share(as_fraction(so) / as_fraction(met)))
        self.assertGreater(answered, 200)


if __name__ == "__main__":
    unittest.main()
