"""Point 3: behind any history all is as with a new case of the same data, and all that tells an answer agrees."""

import unittest

from chancetongue.answers import answer_of, mean_of, mixture_of, spread_of
from chancetongue.cases import Case
from chancetongue.cores import core_holds, core_of
from chancetongue.engines import by_engine
from chancetongue.errors import Broken, NoAsk, NoCondition, NoRow, NotSuch, NoWays
from chancetongue.flows import ALWAYS
from chancetongue.shares import ONE, product_of, quotient_of, share_of, sum_of
from chancetongue.splits import split_holds, split_of
from chancetongue.ways import ways_of_all
from tests.checking import product_of_split
from tests.making import source_of
from tests.slowcase import deed_by_method, state_of
from tests.somebooks import ask_at, bad_deed, good_deed, small_book, within_bounds

REFUSED = (NoAsk, NoCondition, NoRow, NotSuch)


def told_or_none(call, *things, **more):
    try:
        return call(*things, **more)
    except NoWays:
        return None


def anew(case):
    """A new case of the same data, and where each row stands in it."""
    other, places = Case(case.book()), {None: None}
    for number, row in case.rows().items():
        places[number] = other.put(row)
    for ask, at in case.conditions().values():
        other.set_condition(ask, at=places[at])
    return other, places


class Counted:
    """A case with what is put and set so far, so that a history stays within the document's bounds."""

    def __init__(self, book):
        self.case, self.book = Case(book), book

    def now(self):
        case = self.case
        deeds = []
        for row in case.log():
            if row == ("back",):
                deeds.pop()
            elif row[0] not in ("begin", "end"):
                deeds.append(row[0])
        return (case.rows(), case.conditions(), deeds.count("put"), deeds.count("set"))


class Histories(unittest.TestCase):
    def assert_as_anew(self, source, case):
        """How many asks were answered."""
        book, (other, places), answered = case.book(), anew(case), 0
        rows = tuple(other.rows().values())
        conditions = tuple(other.conditions().values())
        for at in (None, *case.rows()):
            ask, given = ask_at(source, book, at), ask_at(source, book, at)
            told = told_or_none(answer_of, case, ask, at=at)
            self.assertEqual(told, told_or_none(answer_of, other, ask, at=places[at]))
            met, so = ways_of_all(book, rows, ask, conditions=conditions, at=places[at], most=10 ** 9)
            self.assertEqual(told, None if met == (0, 1) else quotient_of(so, met))
            for word in ("ways", "tables", "worths", "machine"):
                self.assertEqual(
                    told, told_or_none(by_engine, word, book, rows, ask, conditions=conditions, at=places[at]),
                )
            for one in (ALWAYS, given):
                for call in (answer_of, spread_of, mean_of):
                    self.assertEqual(
                        told_or_none(call, case, ask, at=at, given=one),
                        told_or_none(call, other, ask, at=places[at], given=one),
                    )
            if told is not None:
                self.assert_sums(case, ask, at, told)
                answered += 1
        return answered

    def assert_sums(self, case, ask, at, told):
        """The answer is the sum over the mixture; all values' shares come to one; the mean is theirs."""
        whole = so = (0, 1)
        for values, share, part in mixture_of(case, ask, at=at):
            whole, so = sum_of(whole, share), sum_of(so, product_of(share, part))
        self.assertEqual((whole, so), (ONE, told))
        whole = so = mean = (0, 1)
        for value, share in spread_of(case, ask, at=at).items():
            whole = sum_of(whole, share)
            so = sum_of(so, share) if value else so
            mean = sum_of(mean, product_of(share_of(value), share))
        self.assertEqual((whole, so, mean), (ONE, told, mean_of(case, ask, at=at)))
        split = split_of(case, ask, at=at)
        self.assertEqual((product_of_split(split), split_holds(case, ask, split, at=at)), (told, True))

    def assert_one_of_two(self, case):
        """There is an answer to each ask, or a core, just one of the two; told is whether there is a core."""
        told = core_of(case)
        for at in (None, *case.rows()):
            for call in (answer_of, spread_of, mean_of, mixture_of, split_of):
                self.assertEqual(told_or_none(call, case, ALWAYS, at=at) is None, told is not None)
        if told is not None:
            self.assertIs(core_holds(case, *told), True)
        return told is not None

    def do_something(self, source, counted):
        case, now = counted.case, counted.now()
        kind = source.randrange(10)
        if kind <= 1:
            ahead = (state_of(case), case.nodes())
            with self.assertRaises(REFUSED):
                deed_by_method(case, bad_deed(source, case.book(), now))
            self.assertEqual((state_of(case), case.nodes()), ahead)
        elif kind <= 3 or not within_bounds(now, max(1, len(case.leaf(max(now[0]))) if now[0] else 1)):
            case.back()
        elif kind <= 5:
            deeds = [good_deed(source, case.book(), now) for k in range(source.randrange(3))]
            try:
                case.several(deeds + [bad_deed(source, case.book(), now)][:source.randrange(2)], stay=kind == 4)
            except Broken:
                self.assertEqual(case.log()[-1][0], "end")
            self.assertTrue(case.is_open())
        else:
            deed_by_method(case, good_deed(source, case.book(), now))

    def test_many(self):
        answered = asked = cores = 0
        for seed in range(60):
            source = source_of(seed)
            counted = Counted(small_book(source, most=6))
            for k in range(16):
                self.do_something(source, counted)
                answered += self.assert_as_anew(source, counted.case)
                asked += 1 + len(counted.case)
                cores += self.assert_one_of_two(counted.case)
        self.assertGreater(answered, 800)
        self.assertGreater(asked, answered + 200)
        self.assertGreater(cores, 100)


if __name__ == "__main__":
    unittest.main()
