"""Points 29, 30 and 31: cases, their deeds, what these remake, back, and several at once."""

import copy
import inspect
import unittest
import unittest.mock

from chancetongue import cases
from chancetongue.cases import Case
from chancetongue.deeds import done_in_order
from chancetongue.errors import Broken, NoAsk, NoCondition, NoRow, NotSuch
from tests.checking import Refusing
from tests.making import name, num, op, some_row, source_of
from tests.slowcase import Refused, SlowCase, deed_by_method, state_of
from tests.somebooks import BAG, BARE, EMPTY, PICK, bad_deed, book_of, ex, good_deed, small_book, within_bounds

LOST = op("+", num(1), op("*", num(2), name("zz")))
REFUSALS = {"NoRow": NoRow, "NoCondition": NoCondition, "NotSuch": NotSuch, "NoAsk": NoAsk}


class CaseTest(Refusing):
    def assert_stays(self, case, wanted, call, *things, **more):
        """Refused, and what is told of the case stays."""
        ahead = (state_of(case), case.nodes(), {n: case.leaf(n) for n in case.rows()})
        self.assert_refused(wanted, call, *things, **more)
        self.assertEqual((state_of(case), case.nodes(), {n: case.leaf(n) for n in case.rows()}), ahead)


class Deeds(CaseTest):
    def test_a_new_case(self):
        case = Case(BAG)
        self.assertEqual(case.book(), BAG)
        self.assertEqual((case.rows(), case.conditions(), case.nodes(), len(case)), ({}, {}, {}, 0))
        self.assertEqual((case.remade(), case.reckoned(), case.log(), case.is_open()), ([], 0, [], True))

    def test_rows_put_changed_and_taken(self):
        case = Case(BAG)
        self.assertEqual([case.put((1,)), case.put((0,)), case.put((1,))], [0, 1, 2])
        self.assertEqual(list(case.rows().items()), [(0, (1,)), (1, (0,)), (2, (1,))])
        self.assertIsNone(case.change(0, (0,)))
        self.assertEqual(list(case.rows().items()), [(0, (0,)), (1, (0,)), (2, (1,))])
        self.assertIsNone(case.take(1))
        self.assertEqual(list(case.rows().items()), [(0, (0,)), (2, (1,))])
        self.assertEqual(len(case), 2)
        self.assertEqual(case.put((999,)), 3)
        self.assertIsNone(case.take(3))
        self.assertEqual(case.put((0,)), 4)
        self.assertEqual(list(case.rows().items()), [(0, (0,)), (2, (1,)), (4, (0,))])
        self.assertEqual(len(case), 3)

    def test_conditions_set_and_dropped(self):
        case = Case(BAG)
        case.put((1,))
        self.assertEqual(case.set_condition(name("bag")), 0)
        self.assertEqual(case.set_condition(name("kind"), at=0), 1)
        self.assertEqual(case.set_condition(name("bag"), at=0), 2)
        self.assertEqual(case.set_condition(ex("( = ball 1 )"), at=0), 3)
        self.assertEqual(list(case.conditions().items()), [
            (0, (name("bag"), None)), (1, (name("kind"), 0)), (2, (name("bag"), 0)), (3, (ex("( = ball 1 )"), 0)),
        ])
        self.assertIsNone(case.drop(1))
        self.assertIsNone(case.drop(0))
        self.assertEqual(list(case.conditions()), [2, 3])
        self.assertEqual(case.set_condition(num(1)), 4)
        self.assertEqual(list(case.conditions()), [2, 3, 4])

    def test_a_row_is_taken_with_all_conditions_at_it(self):
        case = Case(BAG)
        for row in ((1,), (0,)):
            case.put(row)
        for ask, at in (("bag", None), ("kind", 1), ("bag", 0), ("seen", 1), ("kind", 0)):
            case.set_condition(name(ask), at=at)
        case.take(1)
        self.assertEqual(list(case.conditions().items()), [(0, (name("bag"), None)), (2, (name("bag"), 0)), (4, (name("kind"), 0))])
        for number in (1, 3):
            self.assert_stays(case, NoCondition(number), case.drop, number)
        self.assertEqual(case.set_condition(num(1)), 5)

    def test_rows_of_a_book_without_fields(self):
        case = Case(BARE)
        self.assertEqual([case.put(()), case.put(())], [0, 1])
        case.change(0, ())
        self.assertEqual(case.rows(), {0: (), 1: ()})
        self.assert_stays(case, NotSuch(), case.put, (1,))

    def test_edges_of_numbers(self):
        case = Case(book_of("fields f g"))
        case.put((0, 999))
        self.assert_stays(case, NotSuch(), case.put, (0, 1000))
        self.assert_stays(case, NotSuch(), case.put, (-1, 0))

    def test_no_rows(self):
        case = Case(BAG)
        case.put((1,))
        for thing in (
            (), (1, 2), (1000,), (-1,), (True,), (False,), ("1",), (None,), ((1,),), 1, "1", None, True, False, "", (1, None),
            ("",), ((),), (10 ** 30,), 0, -1,
        ):
            self.assert_stays(case, NotSuch(), case.put, thing)
            self.assert_stays(case, NotSuch(), case.change, 0, thing)
            self.assert_stays(case, NoRow(1), case.change, 1, thing)
        self.assertEqual(case.put((0,)), 1)

    def test_rows_that_are_not_there(self):
        case = Case(BAG)
        for number in (0, 1, -1, 7):
            self.assert_stays(case, NoRow(number), case.take, number)
            self.assert_stays(case, NoRow(number), case.change, number, (1,))
            self.assert_stays(case, NoRow(number), case.leaf, number)
            self.assert_stays(case, NoRow(number), case.set_condition, num(1), at=number)
        for row in ((1,), (0,), (1,)):
            case.put(row)
        case.take(1)
        for number in (1, 3, -1, -2, -3, 999, True, False):
            self.assert_stays(case, NoRow(number), case.take, number)
            self.assert_stays(case, NoRow(number), case.change, number, (1,))
            self.assert_stays(case, NoRow(number), case.change, number, None)
            self.assert_stays(case, NoRow(number), case.leaf, number)
            self.assert_stays(case, NoRow(number), case.set_condition, num(1), at=number)
            self.assert_stays(case, NoRow(number), case.set_condition, LOST, at=number)

    def test_conditions_that_are_not_there(self):
        case = Case(BAG)
        self.assert_stays(case, NoCondition(0), case.drop, 0)
        case.put((1,))
        for at in (None, 0, None):
            case.set_condition(num(1), at=at)
        case.drop(1)
        for number in (1, 3, -1, -3, True, False):
            self.assert_stays(case, NoCondition(number), case.drop, number)

    def test_conditions_that_are_not_let_by(self):
        case = Case(BAG)
        case.put((1,))
        for text, whole, at_row in (
            ("seen", 0, None), ("ball", 0, None), ("( & bag kind )", 2, None), ("( + 1 ( * 2 zz ) )", 4, 4),
            ("( if bag zz kind )", 2, 2), ("( not ( not zz ) )", 2, 2), ("zz", 0, 0),
        ):
            self.assert_stays(case, NoAsk(whole), case.set_condition, ex(text))
            if at_row is not None:
                self.assert_stays(case, NoAsk(at_row), case.set_condition, ex(text), at=0)
        self.assert_stays(case, NoAsk(1), case.set_condition, ("not", num(1000)))
        self.assert_stays(case, NoAsk(2), case.set_condition, op("+", num(0), num(-1)), at=0)
        self.assert_stays(case, NoAsk(0), case.set_condition, op("/", name("zz"), num(1)), at=0)
        self.assertEqual(case.set_condition(name("seen"), at=0), 0)

    def test_names_known_on_some_ways_alone(self):
        case = Case(book_of("fields f", "if f", "set x 1", "else", "set y 2", "end", "set z 3"))
        case.put((1,))
        self.assert_stays(case, NoAsk(0), case.set_condition, name("x"), at=0)
        self.assertEqual(case.set_condition(name("z"), at=0), 0)

    def test_what_is_told_is_the_askers_own(self):
        case = Case(BAG)
        for row in ((1,), (0,), (1,)):
            case.put(row)
        case.set_condition(name("bag"))
        case.set_condition(name("kind"), at=1)

        def told():
            return [
                case.rows(), case.conditions(), case.nodes(), case.leaf(0), case.remade(), case.log(),
            ]

        kept = copy.deepcopy(told())
        for thing in told():
            if isinstance(thing, dict):
                for part in thing.values():
                    if isinstance(part, dict):
                        part.clear()
                thing[0] = "other"
                thing["more"] = 5
            else:
                thing[0] = "other"
                thing.append("more")
        self.assertEqual(told(), kept)
        for thing in told():
            thing.clear()
        self.assertEqual(told(), kept)
        self.assertEqual(case.put((0,)), 3)

    def test_what_was_handed_in_stays(self):
        case = Case(BAG)
        deeds = [("put", (1,)), ("set", name("bag"), None)]
        case.several(deeds)
        self.assertEqual(deeds, [("put", (1,)), ("set", name("bag"), None)])
        ahead = state_of(case)
        deeds.clear()
        self.assertEqual(state_of(case), ahead)

    def test_two_cases(self):
        one, other = Case(BAG), Case(BAG)
        one.put((1,))
        one.set_condition(num(1))
        self.assertEqual((len(one), len(other), other.conditions(), other.log()), (1, 0, {}, []))

    def test_arguments(self):
        self.assertEqual(str(inspect.signature(Case)), "(book)")
        for word, told in (
            ("book", "(self)"), ("put", "(self, row)"), ("change", "(self, number, row)"), ("take", "(self, number)"),
            ("drop", "(self, number)"), ("set_condition", "(self, ask, *, at=None)"), ("back", "(self)"),
            ("several", "(self, deeds, *, stay=False)"), ("remade", "(self)"), ("reckoned", "(self)"),
            ("rows", "(self)"), ("conditions", "(self)"), ("nodes", "(self)"), ("leaf", "(self, number)"),
            ("log", "(self)"), ("is_open", "(self)"), ("__len__", "(self)"),
        ):
            self.assertEqual(str(inspect.signature(getattr(Case, word))), told)
            self.assertIn(word, vars(Case))
        case = Case(book=BAG)
        self.assertEqual(case.put(row=(1,)), 0)
        case.change(row=(0,), number=0)
        self.assertEqual(case.set_condition(ask=num(1), at=0), 0)
        self.assertEqual(case.leaf(number=0), {(0,): (1, 2), (1,): (1, 4)})
        case.drop(number=0)
        case.take(number=0)
        self.assertEqual(case.several(stay=True, deeds=()), [])
        for call in (lambda: case.set_condition(num(1), None), lambda: case.several([], True)):
            with self.assertRaises(TypeError):
                call()


class Remaking(CaseTest):
    def test_leaves(self):
        case = Case(BAG)
        case.put((1,))
        case.put((0,))
        case.put((5,))
        self.assertEqual(list(case.leaf(0).items()), [((0,), (1, 2)), ((1,), (3, 4))])
        self.assertEqual(list(case.leaf(1).items()), [((0,), (1, 2)), ((1,), (1, 4))])
        self.assertEqual(case.leaf(2), {(0,): (0, 1), (1,): (0, 1)})
        case.set_condition(name("kind"), at=0)
        self.assertEqual(case.leaf(0), {(0,): (1, 4), (1,): (3, 8)})
        case.set_condition(ex("( not bag )"), at=0)
        self.assertEqual(case.leaf(0), {(0,): (1, 4), (1,): (0, 1)})
        case.set_condition(ex("( not kind )"), at=1)
        case.set_condition(ex("( = ball 0 )"), at=1)
        self.assertEqual(case.leaf(1), {(0,): (1, 4), (1,): (1, 8)})
        case.drop(0)
        self.assertEqual(case.leaf(0), {(0,): (1, 2), (1,): (0, 1)})
        case.change(0, (0,))
        self.assertEqual(case.leaf(0), {(0,): (1, 2), (1,): (0, 1)})
        case.drop(1)
        self.assertEqual(case.leaf(0), {(0,): (1, 2), (1,): (1, 4)})

    def test_conditions_of_the_whole_leave_leaves(self):
        case = Case(BAG)
        case.put((1,))
        case.set_condition(ex("( not bag )"))
        self.assertEqual(case.leaf(0), {(0,): (1, 2), (1,): (3, 4)})

    def test_a_leaf_has_the_priors_values_alone(self):
        case = Case(PICK)
        case.put((1,))
        self.assertEqual(list(case.leaf(0).items()), [
            ((a, b), (0, 1) if a == 1 else (1, 1)) for a in (0, 1, 2) for b in (0, 1)
        ])

    def test_an_empty_prior(self):
        case = Case(EMPTY)
        case.put((1,))
        self.assertEqual((case.leaf(0), case.nodes(), case.reckoned(), case.remade()), ({}, {}, 0, [("row", 0)]))
        case.put((0,))
        case.set_condition(name("x"), at=1)
        self.assertEqual(case.nodes(), {(1, 0): {}})
        self.assertEqual((case.reckoned(), case.remade()), (0, [("row", 1), ("node", 1, 0)]))
        case.set_condition(name("a"))
        self.assertEqual(case.remade(), [("given",)])
        case.take(1)
        self.assertEqual(case.remade(), [("node", 1, 0)])

    def test_no_unknowns(self):
        case = Case(BARE)
        case.put(())
        self.assertEqual((case.leaf(0), case.reckoned()), ({(): (1, 1)}, 1))
        case.set_condition(name("x"), at=0)
        self.assertEqual((case.leaf(0), case.reckoned()), ({(): (3, 4)}, 2))

    def test_what_each_deed_remakes(self):
        case = Case(BAG)
        told = []
        for k in range(5):
            case.put((k % 2,))
            told.append(case.remade())
        self.assertEqual(told, [
            [("row", 0)], [("row", 1), ("node", 1, 0)], [("row", 2), ("node", 1, 1), ("node", 2, 0)],
            [("row", 3), ("node", 1, 1), ("node", 2, 0)], [("row", 4), ("node", 1, 2), ("node", 2, 1), ("node", 3, 0)],
        ])
        above = [("node", 1, 1), ("node", 2, 0), ("node", 3, 0)]
        for deed, parts in (
            (("change", 2, (1,)), [("row", 2), *above]), (("change", 2, (1,)), [("row", 2), *above]),
            (("set", name("kind"), 2), [("row", 2), *above]), (("set", name("bag"), None), [("given",)]),
            (("drop", 0), [("row", 2), *above]), (("drop", 1), [("given",)]), (("set", name("kind"), 2), [("row", 2), *above]),
            (("take", 2), above), (("take", 4), [("node", 1, 2), ("node", 2, 1), ("node", 3, 0)]),
            (("put", (1,)), [("row", 5), ("node", 1, 2), ("node", 2, 1), ("node", 3, 0)]),
        ):
            deed_by_method(case, deed)
            self.assertEqual(case.remade(), parts, deed)
            self.assertEqual(case.remade(), parts, deed)

    def test_all_other_nodes_are_as_they_were(self):
        case = Case(BAG)
        for k in range(6):
            case.put((1,))
        for number in range(6):
            ahead = case.nodes()
            case.change(number, (0,))
            remade = [part[1:] for part in case.remade() if part[0] == "node"]
            self.assertEqual([place for place in ahead if ahead[place] != case.nodes()[place]], sorted(remade))

    def test_nodes(self):
        case = Case(BAG)
        for row in ((1,), (0,), (1,)):
            case.put(row)
        self.assertEqual(list(case.nodes().items()), [
            ((1, 0), {(0,): (1, 4), (1,): (3, 16)}), ((1, 1), {(0,): (1, 2), (1,): (3, 4)}),
            ((2, 0), {(0,): (1, 8), (1,): (9, 64)}),
        ])
        case.take(0)
        self.assertEqual(case.nodes()[(2, 0)], {(0,): (1, 4), (1,): (3, 16)})
        case.take(1)
        self.assertEqual(case.nodes(), {
            (1, 0): {(0,): (1, 1), (1,): (1, 1)}, (1, 1): {(0,): (1, 2), (1,): (3, 4)},
            (2, 0): {(0,): (1, 2), (1,): (3, 4)},
        })

    def test_how_many_shares_were_reckoned(self):
        case = Case(PICK)
        told = []
        for deed in (
            ("put", (1,)), ("put", (0,)), ("change", 0, (1,)), ("set", name("x"), 0), ("set", name("a"), None),
            ("drop", 0), ("drop", 1), ("set", name("y"), 1), ("take", 1), ("take", 0), ("put", (2,)),
        ):
            deed_by_method(case, deed)
            told.append(case.reckoned())
        self.assertEqual(told, [6, 12, 18, 24, 24, 30, 30, 36, 36, 36, 42])
        while case.back():
            self.assertEqual(case.reckoned(), 42)
        case.put((0,))
        self.assertEqual(case.reckoned(), 48)
        case.nodes(), case.leaf(0), case.rows()
        self.assertEqual(case.reckoned(), 48)

    def test_what_is_refused_reckons_none(self):
        case = Case(PICK)
        case.put((1,))
        for deed in (("put", None), ("change", 0, ()), ("change", 5, (1,)), ("take", 4), ("set", LOST, 0), ("drop", 3)):
            with self.assertRaises((NotSuch, NoRow, NoAsk, NoCondition)):
                deed_by_method(case, deed)
            self.assertEqual((case.reckoned(), case.remade()), (6, [("row", 0)]))


class Back(CaseTest):
    def test_none(self):
        case = Case(BAG)
        self.assertIs(case.back(), False)
        self.assertEqual((case.log(), case.remade(), case.rows()), ([], [], {}))

    def test_each_kind_of_deed(self):
        case = Case(BAG)
        states = []
        for deed in (
            ("put", (1,)), ("put", (0,)), ("set", name("kind"), 1), ("set", name("bag"), None), ("change", 1, (1,)),
            ("drop", 0), ("set", name("seen"), 1), ("put", (0,)), ("drop", 1), ("take", 1), ("put", (1,)),
        ):
            states.append((case.rows(), case.conditions(), case.nodes(), {n: case.leaf(n) for n in case.rows()}, len(case)))
            deed_by_method(case, deed)
        many = case.reckoned()
        for state in states[::-1]:
            self.assertIs(case.back(), True)
            found = (case.rows(), case.conditions(), case.nodes(), {n: case.leaf(n) for n in case.rows()}, len(case))
            self.assertEqual(found, state)
            self.assertEqual([list(part) for part in found[:3]], [list(part) for part in state[:3]])
            self.assertEqual((case.remade(), case.reckoned()), ([], many))
        for again in range(2):
            self.assertIs(case.back(), False)
        self.assertEqual(case.log()[11:], [("back",)] * 11)

    def test_numbers_begin_again(self):
        case = Case(BAG)
        case.put((1,))
        case.put((0,))
        case.set_condition(num(1))
        case.back()
        self.assertEqual(case.set_condition(num(2)), 0)
        case.back()
        case.back()
        self.assertEqual(case.put((0,)), 1)
        case.take(1)
        self.assertEqual(case.put((0,)), 2)
        case.back()
        case.back()
        self.assertEqual(case.rows(), {0: (1,), 1: (0,)})
        self.assertEqual(case.put((1,)), 2)

    def test_a_taken_row_comes_back_with_its_conditions(self):
        case = Case(BAG)
        case.put((1,))
        case.put((0,))
        case.set_condition(name("kind"), at=0)
        case.set_condition(num(1), at=0)
        leaf = case.leaf(0)
        case.take(0)
        case.back()
        self.assertEqual(list(case.rows()), [0, 1])
        self.assertEqual(case.conditions(), {0: (name("kind"), 0), 1: (num(1), 0)})
        self.assertEqual(case.leaf(0), leaf)

    def test_a_back_is_no_deed_that_can_be_taken_back(self):
        case = Case(BAG)
        case.put((1,))
        case.put((0,))
        case.back()
        case.back()
        self.assertEqual(case.rows(), {})
        self.assertIs(case.back(), False)
        self.assertEqual(case.log(), [("put", (1,)), ("put", (0,)), ("back",), ("back",)])

    def test_a_back_without_a_deed_leaves_what_was_remade(self):
        case = Case(BAG)
        case.put((1,))
        case.back()
        self.assertEqual(case.remade(), [])
        case.several([])
        self.assertIs(case.back(), False)
        case = Case(BAG)
        with self.assertRaises(Broken):
            case.several([("put", (1,)), ("put", 5)])
        self.assertIs(case.back(), False)
        self.assertEqual(case.remade(), [])

    def test_what_is_refused_is_nothing_to_take_back(self):
        case = Case(BAG)
        case.put((1,))
        self.assert_stays(case, NotSuch(), case.put, None)
        self.assert_stays(case, NoRow(4), case.take, 4)
        case.back()
        self.assertEqual(case.rows(), {})

    def test_the_tree_is_as_low_as_it_was(self):
        case = Case(BAG)
        case.put((1,))
        case.put((1,))
        case.put((1,))
        self.assertEqual(list(case.nodes()), [(1, 0), (1, 1), (2, 0)])
        case.back()
        self.assertEqual(list(case.nodes()), [(1, 0)])
        case.change(0, (0,))
        self.assertEqual(case.remade(), [("row", 0), ("node", 1, 0)])


class Several(CaseTest):
    DEEDS = (
        ("put", (1,)), ("put", (0,)), ("set", name("bag"), None), ("set", name("kind"), 1), ("change", 0, (0,)),
        ("drop", 0), ("take", 1), ("put", (1,)),
    )

    def test_what_each_told(self):
        for made in (list, tuple):
            case = Case(BAG)
            self.assertEqual(case.several(made(self.DEEDS)), [0, 1, 0, 1, None, None, None, 2])
            self.assertEqual(case.rows(), {0: (0,), 2: (1,)})
            self.assertEqual(case.log(), [("begin", 8), *self.DEEDS, ("end", 8)])
            self.assertIs(case.is_open(), True)
            self.assertEqual(case.reckoned(), 10)

    def test_none_at_all(self):
        case = Case(BAG)
        case.put((1,))
        for deeds in ([], ()):
            self.assertEqual(case.several(deeds), [])
            self.assertEqual(case.remade(), [])
        self.assertEqual(case.log(), [("put", (1,)), ("begin", 0), ("end", 0), ("begin", 0), ("end", 0)])
        self.assertIs(case.is_open(), True)
        self.assertIs(case.back(), True)
        self.assertEqual((case.rows(), case.back()), ({}, False))

    def test_remade(self):
        case = Case(BAG)
        case.several([("put", (1,)), ("put", (0,)), ("set", num(1), None), ("take", 0)])
        self.assertEqual(case.remade(), [("row", 0), ("row", 1), ("node", 1, 0), ("given",), ("node", 1, 0)])

    def test_each_is_one_for_back(self):
        case = Case(BAG)
        case.several(self.DEEDS)
        case.back()
        self.assertEqual(case.rows(), {0: (0,)})
        self.assertEqual(case.remade(), [])
        case.back()
        self.assertEqual(case.rows(), {0: (0,), 1: (0,)})
        self.assertEqual(case.conditions(), {1: (name("kind"), 1)})
        for k in range(6):
            self.assertIs(case.back(), True)
        self.assertIs(case.back(), False)
        self.assertEqual(case.log(), [("begin", 8), *self.DEEDS, ("end", 8), *[("back",)] * 8])

    def test_refused_whole(self):
        for place in (0, 3, 8):
            for bad in (("put", ()), ("change", 9, (1,)), ("take", 9), ("set", LOST, None), ("set", num(1), 9), ("drop", 9)):
                case = Case(BAG)
                case.put((1,))
                case.set_condition(name("kind"), at=0)
                state, nodes, leaf = state_of(case), case.nodes(), case.leaf(0)
                deeds = [("put", (0,)) for k in range(8)]
                deeds.insert(place, bad)
                self.assert_refused(Broken(place), case.several, deeds)
                log = state[4] + [("begin", 9), ("end", 0)]
                self.assertEqual(state_of(case), (*state[:4], log, True, 1))
                self.assertEqual((case.nodes(), case.leaf(0)), (nodes, leaf))
                self.assertEqual(case.remade(), [("row", 0)])
                self.assertEqual((case.put((1,)), case.set_condition(num(1))), (1, 1))
                case.back()
                case.back()
                case.back()
                self.assertEqual((case.rows(), case.conditions()), ({0: (1,)}, {}))

    def test_told_to_stay(self):
        for place in (0, 3, 8):
            case = Case(BAG)
            case.put((1,))
            deeds = [("put", (0,)) for k in range(8)]
            deeds.insert(place, ("take", 9))
            self.assert_refused(Broken(place), case.several, deeds, stay=True)
            self.assertEqual(len(case), 1 + place)
            self.assertEqual(case.log(), [("put", (1,)), ("begin", 9), *[("put", (0,))] * place, ("end", place)])
            self.assertEqual(case.reckoned(), 2 + 2 * place)
            self.assertEqual([part for part in case.remade() if part[0] == "row"], [("row", k + 1) for k in range(place)])
            self.assertIs(case.is_open(), True)
            for k in range(place + 1):
                self.assertIs(case.back(), True)
            self.assertIs(case.back(), False)

    def test_told_to_stay_where_none_stands(self):
        case = Case(BAG)
        case.put((1,))
        self.assertEqual(case.remade(), [("row", 0)])
        self.assert_refused(Broken(0), case.several, [("drop", 0)], stay=True)
        self.assertEqual(case.remade(), [])
        self.assertEqual(case.log(), [("put", (1,)), ("begin", 1), ("end", 0)])

    def test_told_to_stay_and_none_is_refused(self):
        case = Case(BAG)
        self.assertEqual(case.several(self.DEEDS, stay=True), [0, 1, 0, 1, None, None, None, 2])
        self.assertEqual(case.log(), [("begin", 8), *self.DEEDS, ("end", 8)])

    def test_reckoned_of_several_refused_whole(self):
        case = Case(PICK)
        case.put((1,))
        for deeds in ([("put", (0,)), ("put", (0,)), ("take", 7)], [("take", 0), ("change", 0, (1,))]):
            with self.assertRaises(Broken):
                case.several(deeds)
            self.assertEqual(case.reckoned(), 6)
        with self.assertRaises(Broken):
            case.several([("put", (0,)), ("take", 7), ("put", (0,))], stay=True)
        self.assertEqual(case.reckoned(), 12)

    def test_deeds_see_those_ahead(self):
        case = Case(BAG)
        self.assert_refused(Broken(0), case.several, [("take", 0), ("put", (1,))])
        self.assert_refused(Broken(1), case.several, [("put", (1,)), ("change", 1, (1,))])
        self.assert_refused(Broken(2), case.several, [("put", (1,)), ("take", 0), ("set", num(1), 0)])
        self.assert_refused(Broken(3), case.several, [("put", (1,)), ("set", num(1), 0), ("take", 0), ("drop", 0)])
        self.assertEqual(case.several([("put", (1,)), ("set", num(1), 0), ("drop", 0), ("take", 0)]), [0, 0, None, None])

    def test_what_is_no_deed_is_refused(self):
        for bad in (
            ("jump", 1), ("back",), ("put",), ("put", (1,), 0), ("take",), ("set", num(1)), (), ("begin", 0), "put", None,
            ("change", 0), ("drop", 0, 0), (None, 1), 5,
        ):
            case = Case(BAG)
            self.assert_refused(Broken(1), case.several, [("put", (1,)), bad])
            self.assertEqual((case.rows(), case.log(), case.is_open()), ({}, [("begin", 2), ("end", 0)], True))

    def test_rows_in_deeds_that_are_none(self):
        for thing in ((), (1, 2), (1000,), (-1,), (True,), ("1",), (None,), ((1,),), 1, "1", None, True):
            case = Case(BAG)
            self.assert_refused(Broken(0), case.several, [("put", thing)])
            self.assert_refused(Broken(1), case.several, [("put", (1,)), ("change", 0, thing)])
            self.assertEqual(len(case), 0)

    def test_a_case_is_not_open_while_several_are_done(self):
        case, told = Case(BAG), []

        def watching(standing, deeds):
            told.append(case.is_open())
            return done_in_order(standing, deeds)

        with unittest.mock.patch.object(cases, "done_in_order", watching):
            case.several([("put", (1,))])
            self.assert_refused(Broken(0), case.several, [("put", ())])
        self.assertEqual((told, case.is_open()), ([False, False], True))

    def test_what_is_no_refusal_leaves_the_case_open_too(self):
        case = Case(BAG)
        with unittest.mock.patch.object(cases, "done_in_order", side_effect=KeyError):
            with self.assertRaises(KeyError):
                case.several([("put", (1,))])
        self.assertEqual((case.is_open(), case.log(), case.rows()), (True, [("begin", 1), ("end", 0)], {}))

    def test_behind_a_refusal_all_goes_on(self):
        case = Case(BAG)
        with self.assertRaises(Broken):
            case.several([("put", (1,)), ("take", 5)])
        self.assertEqual(case.several([("put", (0,)), ("set", name("bag"), None)]), [0, 0])
        self.assertEqual(case.remade(), [("row", 0), ("given",)])
        with self.assertRaises(Broken):
            case.several([("take", 0), ("take", 0)])
        self.assertEqual(case.remade(), [("row", 0), ("given",)])
        self.assertEqual(case.rows(), {0: (0,)})


class Histories(CaseTest):
    def assert_like(self, case, slow):
        self.assertEqual(state_of(case), slow.state())
        self.assertEqual(list(case.nodes().items()), list(slow.nodes().items()))
        for number in slow.now[0]:
            self.assertEqual(list(case.leaf(number).items()), list(slow.leaf(number).items()))

    def one_deed(self, source, case, slow, deed):
        """One deed at both, refused or not, alike."""
        try:
            told = slow.do(deed)
        except Refused as refused:
            word, thing = refused.args
            with self.assertRaises(REFUSALS[word]) as caught:
                deed_by_method(case, deed)
            if word != "NotSuch":
                self.assertEqual(caught.exception.number, thing)
        else:
            self.assertEqual(deed_by_method(case, deed), told)

    def several_deeds(self, source, case, slow):
        now, deeds = slow.now, []
        for k in range(source.randrange(0, 5)):
            if source.randrange(8) == 0:
                deeds.append(self.refused_by_both(source, slow, now))
                continue
            deed = good_deed(source, slow.book, now)
            deeds.append(deed)
            now = slow.one(now, deed)[0]
            if not within_bounds(now, len(slow.prior)):
                break
        stay = source.randrange(2) == 1
        told, broken = slow.several(deeds, stay)
        made = source.choice((list, tuple))(deeds)
        if broken is None:
            self.assertEqual(case.several(made, stay=stay), told)
        else:
            self.assert_refused(Broken(broken), case.several, made, stay=stay)

    def refused_by_both(self, source, slow, now):
        """A deed that is refused; asks that aren't let by are not known to the slow case, so they are left out."""
        while True:
            deed = bad_deed(source, slow.book, now)
            if deed[0] != "set" or deed[1] == num(1):
                return deed

    def test_some_histories(self):
        for seed in range(200):
            source = source_of(seed)
            book = small_book(source, most=16)
            case, slow = Case(book), SlowCase(book)
            for k in range(14):
                kind = source.randrange(8)
                if kind == 0:
                    self.assertEqual(case.back(), slow.back())
                elif kind == 1:
                    self.one_deed(source, case, slow, self.refused_by_both(source, slow, slow.now))
                elif not within_bounds(slow.now, len(slow.prior)):
                    self.assertEqual(case.back(), slow.back())
                elif kind == 2:
                    self.several_deeds(source, case, slow)
                else:
                    self.one_deed(source, case, slow, good_deed(source, book, slow.now))
                self.assert_like(case, slow)
            while slow.back():
                self.assertIs(case.back(), True)
                self.assert_like(case, slow)
            self.assertIs(case.back(), False)

    def test_sixteen_rows(self):
        case, slow = Case(BAG), SlowCase(BAG)
        source = source_of(1)
        for k in range(16):
            deed = ("put", some_row(source, BAG))
            slow.do(deed)
            self.assertEqual(case.put(deed[1]), k)
        self.assert_like(case, slow)
        self.assertEqual(len(case.nodes()), 15)


if __name__ == "__main__":
    unittest.main()
