"""Points 36 and 37: what each datum brought to an answer."""

import inspect
import unittest

from chancetongue import splits
from chancetongue.answers import answer_of
from chancetongue.cases import Case
from chancetongue.errors import NoAsk, NoRow, NoWays
from chancetongue.splits import split_holds, split_of
from tests.checking import Refusing, case_of, product_of_split, some_case
from tests.making import name, num, source_of
from tests.slow import as_share
from tests.slowcase import slow_tables, state_of
from tests.somebooks import BAG, BARE, EMPTY, PICK, ask_at, ex, small_book

LOST = ex("( + 1 zz )")


def slow_shares(book, rows, conditions, ask, at):
    """The fractions of all ways that meet these data, and of those in which the ask is so."""
    tables = slow_tables(book, rows, conditions, ask, at)
    return (
        sum(sum(table.values()) for table in tables.values()),
        sum(share for table in tables.values() for value, share in table.items() if value),
    )


def slow_split(book, rows, conditions, ask, at):
    """The split, each prefix of the data by itself; None where no way is left."""
    if slow_shares(book, rows, conditions, ask, at)[0] == 0:
        return None
    some_rows, some_conditions = ({} if at is None else {at: rows[at]}), {}
    met, so = slow_shares(book, some_rows, some_conditions, ask, at)
    first, steps = as_share(so / met), []
    data = [("row", n) for n in sorted(rows) if n != at] + [("given", n) for n in sorted(conditions)]
    for word, n in data:
        if so == 0:
            break
        if word == "row":
            some_rows = {k: rows[k] for k in rows if k in some_rows or k == n}
        else:
            some_conditions[n] = conditions[n]
        met_now, so_now = slow_shares(book, some_rows, some_conditions, ask, at)
        steps.append(((word, n), as_share(so_now / so), as_share(met_now / met)))
        met, so = met_now, so_now
    return (first, tuple(steps))


class Splits(Refusing):
    def assert_split(self, case, text, told, at=None):
        ask = ex(text)
        self.assertEqual(split_of(case, ask, at=at), told)
        self.assertIs(split_holds(case, ask, told, at=at), True)
        self.assertEqual(product_of_split(told), answer_of(case, ask, at=at))

    def test_no_data(self):
        self.assert_split(Case(BAG), "bag", ((2, 3), ()))
        self.assert_split(Case(BAG), "7", ((1, 1), ()))
        self.assert_split(Case(BAG), "0", ((0, 1), ()))
        self.assert_split(Case(BARE), "1", ((1, 1), ()))

    def test_rows_alone(self):
        case = case_of(BAG, ("put", (1,)), ("put", (0,)))
        self.assert_split(case, "bag", ((2, 3), ((("row", 0), (3, 4), (2, 3)), (("row", 1), (1, 4), (5, 16)))))
        self.assert_split(case, "( not bag )", ((1, 3), ((("row", 0), (1, 2), (2, 3)), (("row", 1), (1, 2), (5, 16)))))

    def test_conditions_alone(self):
        case = case_of(PICK, ("set", name("a"), None), ("set", ex("( < a 2 )"), None))
        self.assert_split(case, "b", ((3, 4), ((("given", 0), (2, 3), (2, 3)), (("given", 1), (1, 2), (1, 2)))))
        self.assert_split(case, "( = a 1 )", ((1, 3), ((("given", 0), (1, 1), (2, 3)), (("given", 1), (1, 1), (1, 2)))))

    def test_conditions_at_rows_come_behind_all_rows(self):
        case = case_of(BAG, ("put", (1,)), ("set", ex("( | bag kind )"), 0), ("put", (0,)), ("set", name("bag"), None))
        self.assert_split(case, "bag", ((2, 3), (
            (("row", 0), (3, 4), (2, 3)), (("row", 1), (1, 4), (5, 16)), (("given", 0), (1, 1), (4, 5)),
            (("given", 1), (1, 1), (3, 4)),
        )))

    def test_several_conditions_at_a_row(self):
        case = case_of(BAG, ("put", (1,)), ("set", name("kind"), 0), ("set", ex("( = kind bag )"), 0))
        self.assert_split(case, "bag", ((2, 3), (
            (("row", 0), (3, 4), (2, 3)), (("given", 0), (1, 2), (1, 2)), (("given", 1), (1, 1), (3, 4)),
        )))

    def test_an_ask_at_a_row(self):
        case = case_of(
            BAG, ("put", (1,)), ("put", (0,)), ("set", ex("( | bag kind )"), 0), ("set", ex("( | bag kind )"), 1),
        )
        # The row asked at goes ahead and is no step; its conditions are.
        self.assert_split(case, "kind", ((1, 2), (
            (("row", 0), (5, 8), (5, 8)), (("given", 0), (4, 5), (4, 5)), (("given", 1), (1, 1), (7, 8)),
        )), at=1)
        self.assert_split(case, "kind", ((1, 2), (
            (("row", 1), (5, 16), (5, 16)), (("given", 0), (1, 1), (4, 5)), (("given", 1), (4, 5), (7, 8)),
        )), at=0)
        self.assert_split(case_of(BAG, ("put", (1,))), "bag", ((3, 4), ()), at=0)

    def test_first_nought(self):
        case = case_of(BAG, ("put", (1,)), ("set", name("kind"), 0))
        self.assert_split(case, "( = bag 7 )", ((0, 1), ()))
        self.assert_split(case, "( not seen )", ((0, 1), ()), at=0)

    def test_an_up_of_nought(self):
        case = case_of(PICK, ("put", (0,)), ("put", (1,)), ("put", (1,)), ("set", name("b"), None))
        self.assert_split(case, "( = a 1 )", ((1, 3), ((("row", 0), (1, 1), (2, 3)), (("row", 1), (0, 1), (1, 2)))))
        self.assert_split(case, "( = a 0 )", ((1, 3), ((("row", 0), (0, 1), (2, 3)),)))
        case = case_of(PICK, ("put", (0,)), ("set", name("b"), None), ("set", name("y"), 0))
        self.assert_split(case, "( not b )", ((1, 4), ((("row", 0), (2, 3), (2, 3)), (("given", 0), (0, 1), (3, 4)))))

    def test_numbers_with_gaps(self):
        case = case_of(
            BAG, ("put", (5,)), ("put", (1,)), ("set", num(0), 0), ("put", (0,)), ("set", ex("( | bag kind )"), 2), ("take", 0),
        )
        self.assert_split(case, "bag", ((2, 3), (
            (("row", 1), (3, 4), (2, 3)), (("row", 2), (1, 4), (5, 16)), (("given", 1), (1, 1), (4, 5)),
        )))
        self.assert_split(case, "bag", ((1, 2), ((("row", 1), (3, 4), (5, 8)), (("given", 1), (1, 1), (4, 5)))), at=2)

    def test_refused_in_order(self):
        case = case_of(BAG, ("put", (1,)), ("put", (1,)), ("take", 0))
        barred = case_of(BAG, ("put", (1,)), ("set", num(0), None))
        for call, rest in ((split_of, ()), (split_holds, ((),)), (split_holds, (((1, 1), ()),))):
            for at in (0, 2, -1, True):
                self.assert_refused(NoRow(at), call, case, LOST, *rest, at=at)
            self.assert_refused(NoAsk(2), call, case, LOST, *rest, at=1)
            self.assert_refused(NoAsk(0), call, case, name("kind"), *rest)
            self.assert_refused(NoAsk(2), call, barred, LOST, *rest)
            self.assert_refused(NoAsk(2), call, barred, LOST, *rest, at=0)
            self.assert_refused(NoWays(), call, barred, num(1), *rest)
            self.assert_refused(NoWays(), call, barred, num(0), *rest, at=0)
            self.assert_refused(NoWays(), call, Case(EMPTY), num(1), *rest)

    def test_the_case_stands_as_it_stood(self):
        case = case_of(BAG, ("put", (1,)), ("put", (0,)), ("set", name("kind"), 1))
        ahead, nodes = state_of(case), case.nodes()
        told = split_of(case, name("bag"))
        split_holds(case, name("bag"), told)
        self.assertEqual((state_of(case), case.nodes(), split_of(case, name("bag"))), (ahead, nodes, told))

    def test_arguments(self):
        self.assertEqual(str(inspect.signature(splits.split_of)), "(case, ask, *, at=None)")
        self.assertEqual(str(inspect.signature(splits.split_holds)), "(case, ask, some, *, at=None)")
        case = Case(BAG)
        self.assertEqual(split_of(ask=name("bag"), case=case, at=None), ((2, 3), ()))
        self.assertIs(split_holds(some=((2, 3), ()), ask=name("bag"), case=case), True)
        for call, rest in ((split_of, ()), (split_holds, (((2, 3), ()),))):
            with self.assertRaises(TypeError):
                call(case, name("bag"), *rest, None)


class SplitsLookedAt(unittest.TestCase):
    def test_others(self):
        case = case_of(BAG, ("put", (1,)), ("put", (0,)), ("set", ex("( | bag kind )"), 0))
        told = split_of(case, name("bag"))
        first, (one, two, three) = told
        self.assertIs(split_holds(case, name("bag"), told), True)
        for some in (
            ((4, 6), told[1]), ((1, 2), told[1]), ((0, 1), told[1]), (first, ()), (first, (one, two)), (first, (two, three)),
            (first, (one, two, three, three)), (first, (one, one, two, three)), (first, (two, one, three)),
            (first, (one, three, two)), (first, (one, two, (("given", 1), *three[1:]))),
            (first, (one, two, (("row", 0), *three[1:]))), (first, (one, (("row", 7), *two[1:]), three)),
            (first, (one, (("jump", 1), *two[1:]), three)), (first, (one, (two[0], (2, 8), two[2]), three)),
            (first, (one, (two[0], two[1], (10, 32)), three)), (first, (one, (two[0], two[2], two[1]), three)),
            (first, (one, (two[0], (1, 1), (5, 4)), three)), (first, (one, two, three, (("given", 1), (1, 1), (1, 1)))),
            ((0, 1), ()), (first, (one, two, (three[0], (-1, 1), three[2]))), ((-2, -3), told[1]),
            (first, ((one[0], (6, 8), one[2]), two, three)), (first, (one, two, (three[0], (0, 1), (1, 1)))),
        ):
            self.assertIs(split_holds(case, name("bag"), some), False, some)
        self.assertIs(split_holds(case, ex("( not bag )"), told), False)
        self.assertIs(split_holds(case, name("bag"), told, at=0), False)
        case.take(1)
        self.assertIs(split_holds(case, name("bag"), told), False)
        case.back()
        self.assertIs(split_holds(case, name("bag"), told), True)

    def test_steps_behind_nought(self):
        case = case_of(PICK, ("put", (0,)), ("set", name("b"), None))
        ask = ex("( = a 0 )")
        self.assertIs(split_holds(case, ask, ((1, 3), ((("row", 0), (0, 1), (2, 3)),))), True)
        more = ((1, 3), ((("row", 0), (0, 1), (2, 3)), (("given", 0), (0, 1), (3, 4))))
        self.assertIs(split_holds(case, ask, more), False)
        self.assertIs(split_holds(case, ask, ((1, 3), ())), False)


class SomeCases(unittest.TestCase):
    def test_some_cases(self):
        longest = many = 0
        for seed in range(250):
            source = source_of(seed)
            book = small_book(source, most=24)
            case = some_case(source, book, source.randrange(8))
            for at in (None, *case.rows()):
                ask = ask_at(source, book, at)
                told = slow_split(book, case.rows(), case.conditions(), ask, at)
                if told is None:
                    with self.assertRaises(NoWays):
                        split_of(case, ask, at=at)
                    continue
                self.assertEqual(split_of(case, ask, at=at), told)
                self.assertIs(split_holds(case, ask, told, at=at), True)
                self.assertEqual(product_of_split(told), answer_of(case, ask, at=at))
                longest, many = max(longest, len(told[1])), many + (len(told[1]) > 1)
        self.assertGreater(longest, 4)
        self.assertGreater(many, 80)


if __name__ == "__main__":
    unittest.main()
