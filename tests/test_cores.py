"""Point 38: cores and their papers, where no way is left."""

import inspect
import itertools
import unittest

from chancetongue import cores
from chancetongue.answers import answer_of
from chancetongue.cases import Case
from chancetongue.cores import core_holds, core_of
from chancetongue.errors import NoWays
from tests.checking import case_of, some_case
from tests.making import name, num, source_of
from tests.slow import slow_known, slow_value, slow_ways
from tests.slowcase import slow_prior, state_of
from tests.somebooks import BAG, BARE, EMPTY, PICK, ask_at, ex, small_book


class SlowCore:
    """What bars what, straight from the document's words."""

    def __init__(self, case):
        self.book, self.rows, self.conditions = case.book(), case.rows(), case.conditions()
        self.prior = list(slow_prior(self.book))
        self.data = [("row", n) for n in sorted(self.rows)] + [("given", n) for n in sorted(self.conditions)]

    def does_bar(self, datum, values, core):
        word, n = datum
        if word == "given":
            E, at = self.conditions[n]
            return at is None and not slow_value(E, slow_known(self.book, values, ()))
        wanted = [E for k, (E, at) in self.conditions.items() if at == n and ("given", k) in core]
        ways = slow_ways(self.book, values, self.rows[n])
        return not any(all(slow_value(E, known) for E in wanted) for share, known in ways)

    def no_way_meets(self, core):
        return all(any(self.does_bar(datum, values, core) for datum in core) for values in self.prior)

    def left_out(self, core, datum):
        gone = [datum]
        if datum[0] == "row":
            gone += [("given", k) for k, (E, at) in self.conditions.items() if at == datum[1]]
        return tuple(other for other in core if other not in gone)

    def is_core(self, core):
        if list(core) != [datum for datum in self.data if datum in core]:
            return False
        places = [self.conditions[n][1] for word, n in core if word == "given"]
        if any(at is not None and ("row", at) not in core for at in places):
            return False
        return self.no_way_meets(core) and not any(self.no_way_meets(self.left_out(core, datum)) for datum in core)

    def is_paper(self, core, paper):
        return [values for values, datum in paper] == self.prior and all(
            datum in core and self.does_bar(datum, values, core) for values, datum in paper
        )

    def papers(self, core):
        """All papers of a core."""
        choices = [[(values, datum) for datum in core if self.does_bar(datum, values, core)] for values in self.prior]
        return itertools.product(*choices)


class Cores(unittest.TestCase):
    def assert_core(self, case, core, paper=None):
        told = core_of(case)
        self.assertEqual(told[0], core)
        if paper is not None:
            self.assertEqual(told[1], paper)
        self.assert_right(case, told)

    def assert_right(self, case, told):
        slow = SlowCore(case)
        self.assertIsInstance(told, tuple)
        core, paper = told
        self.assertIsInstance(core, tuple)
        self.assertIsInstance(paper, tuple)
        self.assertTrue(slow.is_core(core))
        self.assertTrue(slow.is_paper(core, paper))
        self.assertIs(core_holds(case, core, paper), True)
        with self.assertRaises(NoWays):
            answer_of(case, num(1))

    def test_where_ways_are_left(self):
        for case in (Case(BAG), Case(BARE), case_of(BAG, ("put", (1,)), ("set", name("bag"), None), ("set", name("kind"), 0))):
            self.assertIsNone(core_of(case))
            self.assertEqual(answer_of(case, num(1)), (1, 1))

    def test_a_condition_and_its_contrary(self):
        case = case_of(BAG, ("put", (1,)), ("set", name("bag"), None), ("set", num(1), None), ("set", ex("( not bag )"), None))
        self.assert_core(case, (("given", 0), ("given", 2)), (((0,), ("given", 0)), ((1,), ("given", 2))))

    def test_one_condition_alone(self):
        case = case_of(BAG, ("put", (1,)), ("set", num(0), None))
        self.assert_core(case, (("given", 0),), (((0,), ("given", 0)), ((1,), ("given", 0))))

    def test_one_row_alone(self):
        case = case_of(BAG, ("put", (1,)), ("put", (5,)), ("set", name("bag"), None), ("set", name("kind"), 1))
        self.assert_core(case, (("row", 1),), (((0,), ("row", 1)), ((1,), ("row", 1))))

    def test_several_rows(self):
        case = case_of(PICK, ("put", (0,)), ("put", (9,)), ("put", (1,)), ("put", (2,)))
        self.assert_core(case, (("row", 0), ("row", 2), ("row", 3)), tuple(
            ((a, b), ("row", (0, 2, 3)[a])) for a in (0, 1, 2) for b in (0, 1)
        ))

    def test_rows_with_conditions(self):
        case = case_of(BAG, ("put", (1,)), ("put", (0,)), ("set", name("kind"), 0), ("set", ex("( not seen )"), 0))
        self.assert_core(case, (("row", 0), ("given", 1)), (((0,), ("row", 0)), ((1,), ("row", 0))))
        case = case_of(BAG, ("put", (1,)), ("set", name("kind"), 0), ("set", ex("( not kind )"), 0))
        self.assert_core(case, (("row", 0), ("given", 0), ("given", 1)))
        case = case_of(
            BAG, ("put", (1,)), ("put", (1,)), ("set", ex("( = kind bag )"), 0), ("set", ex("( not kind )"), 0),
            ("set", ex("( not bag )"), 1),
        )
        self.assertIsNone(core_of(case))
        case.set_condition(name("bag"))
        self.assert_right(case, core_of(case))
        # Each bars by itself, so that a row alone does.
        case.set_condition(ex("( = ball 7 )"), at=1)
        self.assert_right(case, core_of(case))

    def test_a_row_and_a_condition_of_the_whole(self):
        case = case_of(PICK, ("put", (0,)), ("set", ex("( < a 1 )"), None), ("set", name("b"), None))
        self.assert_core(case, (("row", 0), ("given", 0)), (
            ((0, 0), ("row", 0)), ((0, 1), ("row", 0)), ((1, 0), ("given", 0)), ((1, 1), ("given", 0)),
            ((2, 0), ("given", 0)), ((2, 1), ("given", 0)),
        ))

    def test_an_empty_prior(self):
        for deeds in ((), (("put", (1,)), ("put", (5,)), ("set", num(0), None), ("set", name("x"), 0))):
            case = case_of(EMPTY, *deeds)
            self.assertEqual(core_of(case), ((), ()))
            self.assertIs(core_holds(case, (), ()), True)
            self.assertIs(core_holds(case, (), (((0,), ("row", 0)),)), False)
            if deeds:
                for core in ((("row", 0),), (("given", 0),), (("row", 0), ("row", 1))):
                    self.assertIs(core_holds(case, core, ()), False)

    def test_no_unknowns(self):
        case = case_of(BARE, ("put", ()), ("put", ()), ("set", ex("( = x 2 )"), 1), ("set", ex("( not x )"), 1))
        self.assert_core(case, (("row", 1), ("given", 0), ("given", 1)), (((), ("row", 1)),))

    def test_behind_a_back_ways_are_left_again(self):
        case = case_of(BAG, ("put", (1,)), ("put", (5,)))
        self.assert_core(case, (("row", 1),))
        case.back()
        self.assertIsNone(core_of(case))

    def test_the_case_stands_as_it_stood(self):
        case = case_of(BAG, ("put", (1,)), ("set", name("kind"), 0), ("set", ex("( not kind )"), 0), ("set", num(1), None))
        ahead, nodes, leaf = state_of(case), case.nodes(), case.leaf(0)
        told = core_of(case)
        core_holds(case, *told)
        core_holds(case, (("row", 0),), ())
        self.assertEqual((state_of(case), case.nodes(), case.leaf(0), core_of(case)), (ahead, nodes, leaf, told))

    def test_arguments(self):
        self.assertEqual(str(inspect.signature(cores.core_of)), "(case)")
        self.assertEqual(str(inspect.signature(cores.core_holds)), "(case, some, paper)")
        case = case_of(BAG, ("put", (5,)))
        core, paper = core_of(case=case)
        self.assertIs(core_holds(paper=paper, some=core, case=case), True)


class CoresLookedAt(unittest.TestCase):
    def setUp(self):
        # Two cores: the conditions 0 and 2, or row 1 with its condition 3.
        self.case = case_of(
            BAG, ("put", (1,)), ("put", (0,)), ("set", name("bag"), None), ("set", num(1), None),
            ("set", ex("( not bag )"), None), ("set", name("seen"), 1), ("set", name("kind"), 0),
        )
        self.one = (("given", 0), ("given", 2))
        self.one_paper = (((0,), ("given", 0)), ((1,), ("given", 2)))
        self.other = (("row", 1), ("given", 3))
        self.other_paper = (((0,), ("row", 1)), ((1,), ("row", 1)))

    def assert_not(self, some, paper):
        self.assertIs(core_holds(self.case, some, paper), False, (some, paper))

    def test_any_such(self):
        self.assertIs(core_holds(self.case, self.one, self.one_paper), True)
        self.assertIs(core_holds(self.case, self.other, self.other_paper), True)
        self.assertIs(core_holds(self.case, *core_of(self.case)), True)

    def test_other_cores(self):
        for some in (
            (), (("given", 0),), (("given", 2),), (("given", 0), ("given", 1), ("given", 2)), (("given", 0), ("given", 2), ("given", 2)),
            (("given", 0), ("given", 0), ("given", 2)), (("given", 2), ("given", 0)), (("row", 0), ("given", 0), ("given", 2)),
            (("given", 0), ("given", 2), ("given", 9)), (("given", 0), ("given", 2), ("row", 9)), (("given", -1), ("given", 2)),
            (("given", 0), ("jump", 2)), (("row", 0), ("row", 2)), (("given", 3),), (("given", 0), ("given", 2), ("given", 3)),
            (("row", 1),), (("jump", 0), ("given", 0), ("given", 2)), (("given", 0), ("given", 4)),
        ):
            self.assert_not(some, self.one_paper)
        for some in (
            (("row", 1),), (("given", 3),), (("given", 3), ("row", 1)), (("row", 0), ("row", 1), ("given", 3)),
            (("row", 1), ("given", 0), ("given", 3)), (("row", 1), ("given", 3), ("given", 3)), (("row", 0), ("given", 3)),
            (("row", 0), ("given", 4)), (("row", 1), ("row", 1), ("given", 3)),
        ):
            self.assert_not(some, self.other_paper)
        whole = (("row", 0), ("row", 1), ("given", 0), ("given", 1), ("given", 2), ("given", 3), ("given", 4))
        self.assert_not(whole, self.one_paper)
        self.assert_not(whole, self.other_paper)

    def test_other_papers(self):
        one, two = self.one_paper
        for paper in (
            (), (one,), (two,), (two, one), (one, two, two), (one, one, two), (one, two, ((2,), ("given", 0))),
            (one, ((1,), ("given", 0))), (((0,), ("given", 2)), two), (one, ((1,), ("given", 1))), (one, ((1,), ("row", 1))),
            (one, ((1,), ("row", 9))), (one, ((1,), ("given", 9))), (one, ((1,), ("jump", 2))), (one, ((3,), ("given", 2))),
            (one, ((), ("given", 2))), (one, ((1, 1), ("given", 2))), (one, ((1,), ("given", 3))),
        ):
            self.assert_not(self.one, paper)
        self.assert_not(self.one, self.other_paper)
        self.assert_not(self.other, self.one_paper)
        # A condition at a row bars by that row alone.
        self.assert_not(self.other, (((0,), ("row", 1)), ((1,), ("given", 3))))

    def test_where_ways_are_left(self):
        self.case.drop(2)
        self.assertIs(core_holds(self.case, self.other, self.other_paper), True)
        self.assert_not(self.one, self.one_paper)
        self.case.drop(3)
        self.assertIsNone(core_of(self.case))
        for some, paper in (
            (self.one, self.one_paper), (self.other, self.other_paper), ((), ()), ((("row", 0),), ()),
            ((("row", 1),), self.other_paper), ((("given", 0),), (((0,), ("given", 0)),)),
        ):
            self.assert_not(some, paper)

    def test_two_that_bar_the_same(self):
        case = case_of(PICK, ("put", (0,)), ("put", (0,)), ("set", ex("( < a 1 )"), None))
        for row in (0, 1):
            paper = tuple(((a, b), ("given", 0) if a else ("row", row)) for a in (0, 1, 2) for b in (0, 1))
            self.assertIs(core_holds(case, (("row", row), ("given", 0)), paper), True)
            self.assertIs(core_holds(case, (("row", 1 - row), ("given", 0)), paper), False)
            self.assertIs(core_holds(case, (("row", 0), ("row", 1), ("given", 0)), paper), False)


class SomeCases(unittest.TestCase):
    def test_a_core_or_an_answer(self):
        lengths = []
        for seed in range(700):
            source = source_of(seed)
            case = some_case(source, small_book(source, most=12), source.randrange(8))
            told = core_of(case)
            try:
                answer_of(case, ask_at(source, case.book(), None))
            except NoWays:
                slow = SlowCore(case)
                self.assertTrue(slow.is_core(told[0]))
                self.assertTrue(slow.is_paper(*told))
                self.assertIs(core_holds(case, *told), True)
                lengths.append(len(told[0]))
            else:
                self.assertIsNone(told)
        self.assertGreater(len(lengths), 100)
        self.assertGreater(lengths.count(1), 20)
        self.assertGreater(lengths.count(2), 20)

    def test_longer_cores(self):
        wholes = [ex(f"( not ( = a {k} ) )") for k in range(3)] + [ex(f"( | ( = b {k} ) ( < a 2 ) )") for k in (0, 1)]
        at_rows = [name("y"), ex("( not y )"), ex("( = x b )"), ex("( not ( = x b ) )"), ex("( < x a )"), ex("( | b y )")]
        lengths = []
        for seed in range(300):
            source = source_of(seed)
            case = Case(PICK)
            for k in range(7):
                if k < 3:
                    case.put((source.choice((0, 1, 2, 9, 9)),))
                at = source.choice((None, None, *case.rows()))
                case.set_condition(source.choice(wholes if at is None else at_rows), at=at)
            told = core_of(case)
            if told is None:
                self.assertTrue(answer_of(case, num(1)))
                continue
            slow = SlowCore(case)
            self.assertTrue(slow.is_core(told[0]))
            self.assertTrue(slow.is_paper(*told))
            self.assertIs(core_holds(case, *told), True)
            for datum in told[0]:
                self.assertIs(core_holds(case, slow.left_out(told[0], datum), told[1]), False)
            for datum in slow.data:
                more = tuple(other for other in slow.data if other in told[0] or other == datum)
                self.assertIs(core_holds(case, more, told[1]), datum in told[0])
            lengths.append(len(told[0]))
        for length, many in ((3, 50), (4, 15), (5, 3), (6, 2)):
            self.assertGreater(lengths.count(length), many)

    def test_all_tuples_of_data(self):
        held = looked = 0
        for seed in range(300):
            source = source_of(seed)
            case = some_case(source, small_book(source, most=12), source.randrange(1, 6))
            slow = SlowCore(case)
            if len(slow.data) > 5 or len(slow.prior) > 6:
                continue
            pool = slow.data + [("row", 77)]
            for many in range(len(pool) + 1):
                for core in itertools.combinations(pool, many):
                    known = ("row", 77) not in core
                    is_core = known and slow.is_core(core)
                    some_paper = tuple((values, source.choice(core)) for values in slow.prior) if core else ()
                    self.assertIs(core_holds(case, core, some_paper), is_core and slow.is_paper(core, some_paper))
                    looked += 1
                    if is_core:
                        for paper in itertools.islice(slow.papers(core), 20):
                            self.assertIs(core_holds(case, core, paper), True)
                            held += 1
        self.assertGreater(held, 100)
        self.assertGreater(looked, 2000)


if __name__ == "__main__":
    unittest.main()
