"""Point 34: watches, their answers, and the news behind each deed."""

import inspect
import unittest

from chancetongue.answers import answer_of, mixture_of
from chancetongue.cases import Case
from chancetongue.errors import Broken, NoAsk, NoRow, NotSuch
from chancetongue.flows import ALWAYS
from chancetongue.watches import Watched
from tests.checking import Refusing
from tests.making import name, num, source_of
from tests.slowcase import SlowCase, deed_by_method, slow_answer, state_of
from tests.somebooks import BAG, EMPTY, PICK, ask_at, ex, good_deed, place_of, small_book, within_bounds

LOST = ex("( + 1 zz )")
BAG_NAME, KIND = name("bag"), name("kind")


class Watches(Refusing):
    def test_a_watched_is_a_case(self):
        case, other = Watched(BAG), Case(BAG)
        self.assertIsInstance(case, Case)
        for one in (case, other):
            one.several([("put", (1,)), ("put", (0,)), ("set", ex("( | bag kind )"), 0)])
            one.take(1)
            one.back()
        self.assertEqual((state_of(case), case.nodes(), case.leaf(0)), (state_of(other), other.nodes(), other.leaf(0)))
        self.assertEqual(case.book(), BAG)
        self.assertEqual(answer_of(case, BAG_NAME), answer_of(other, BAG_NAME))
        self.assertEqual(mixture_of(case, KIND, at=0), mixture_of(other, KIND, at=0))

    def test_none(self):
        case = Watched(BAG)
        self.assertEqual((case.watches(), case.news()), ({}, []))
        case.put((1,))
        self.assertEqual((case.watches(), case.news()), ({}, []))

    def test_numbers_and_answers(self):
        case = Watched(BAG)
        case.put((1,))
        self.assertEqual(case.watch(BAG_NAME), 0)
        self.assertEqual(case.watch(KIND, at=0), 1)
        self.assertEqual(case.watch(KIND, at=0, given=ex("( | bag kind )")), 2)
        self.assertEqual(case.watch(BAG_NAME, given=ex("( not bag )")), 3)
        self.assertEqual(case.watch(BAG_NAME), 4)
        self.assertEqual(list(case.watches().items()), [(0, (3, 4)), (1, (1, 2)), (2, (4, 7)), (3, (0, 1)), (4, (3, 4))])
        case.put((0,))
        self.assertEqual(case.watches(), {0: (3, 5), 1: (1, 2), 2: (5, 8), 3: (0, 1), 4: (3, 5)})

    def test_none_where_a_row_is_gone_or_no_way_is_left(self):
        case = Watched(BAG)
        case.put((1,))
        case.put((0,))
        case.watch(BAG_NAME)
        case.watch(KIND, at=0)
        case.watch(KIND, at=1)
        case.watch(BAG_NAME, given=ex("( not bag )"))
        case.take(0)
        self.assertEqual(case.watches(), {0: (1, 2), 1: None, 2: (1, 2), 3: (0, 1)})
        self.assertEqual(case.news(), [0, 1])
        case.set_condition(BAG_NAME)
        self.assertEqual(case.watches(), {0: (1, 1), 1: None, 2: (1, 2), 3: None})
        self.assertEqual(case.news(), [0, 3])
        case.set_condition(num(0))
        self.assertEqual(case.watches(), {0: None, 1: None, 2: None, 3: None})
        self.assertEqual(case.news(), [0, 2])
        case.back()
        self.assertEqual(case.watches(), {0: (1, 1), 1: None, 2: (1, 2), 3: None})
        self.assertEqual(case.news(), [0, 2])

    def test_a_watch_at_a_row_that_is_put_again(self):
        case = Watched(BAG)
        case.put((1,))
        case.watch(name("ball"), at=0)
        case.back()
        self.assertEqual((case.watches(), case.news()), ({0: None}, [0]))
        case.put((0,))
        self.assertEqual((case.watches(), case.news()), ({0: (0, 1)}, [0]))

    def test_refused(self):
        case = Watched(BAG)
        case.put((1,))
        for at in (1, -1, True, False):
            self.assert_refused(NoRow(at), case.watch, LOST, at=at, given=name("zz"))
        for at in (None, 0):
            self.assert_refused(NoAsk(2), case.watch, LOST, at=at, given=name("zz"))
            self.assert_refused(NoAsk(0), case.watch, num(1), at=at, given=name("zz"))
        self.assert_refused(NoAsk(0), case.watch, KIND)
        self.assertEqual((case.watches(), case.watch(BAG_NAME)), ({}, 0))
        case.take(0)
        self.assert_refused(NoRow(0), case.watch, KIND, at=0)

    def test_no_way_is_no_refusal(self):
        case = Watched(EMPTY)
        self.assertEqual(case.watch(name("a")), 0)
        case.put((1,))
        self.assertEqual(case.watch(name("x"), at=0), 1)
        self.assertEqual((case.watches(), case.news()), ({0: None, 1: None}, []))

    def test_none_ahead_of_all_deeds(self):
        case = Watched(BAG)
        case.watch(BAG_NAME)
        self.assertEqual(case.news(), [])
        self.assert_refused(NotSuch(), case.put, None)
        self.assertFalse(case.back())
        self.assert_refused(Broken(1), case.several, [("put", (1,)), ("put", ())])
        self.assertEqual(case.news(), [])

    def test_a_watch_told_behind_the_last_deed_is_no_news(self):
        case = Watched(BAG)
        case.watch(BAG_NAME)
        case.put((1,))
        case.watch(BAG_NAME)
        self.assertEqual(case.news(), [0])
        self.assertEqual(case.news(), [0])
        case.put((0,))
        self.assertEqual(case.news(), [0, 1])

    def test_news_behind_each_kind_of_deed(self):
        case = Watched(BAG)
        case.watch(BAG_NAME)
        case.put((1,))
        self.assertEqual(case.news(), [0])
        case.watch(KIND, at=0)
        case.watch(num(1))
        for deed, told in (
            (("put", (0,)), [0]), (("change", 1, (1,)), [0]), (("change", 1, (1,)), []), (("set", KIND, 1), []),
            (("set", KIND, 0), [1]), (("drop", 1), [1]), (("set", BAG_NAME, None), [0]), (("drop", 2), [0]),
            (("set", ex("( < bag 7 )"), None), []), (("take", 1), [0]), (("take", 0), [0, 1]), (("set", num(0), None), [0, 2]),
        ):
            deed_by_method(case, deed)
            self.assertEqual(case.news(), told, deed)

    def test_news_behind_a_back(self):
        case = Watched(BAG)
        case.watch(BAG_NAME)
        case.watch(num(1))
        case.put((1,))
        case.set_condition(ex("( < bag 7 )"))
        case.back()
        self.assertEqual(case.news(), [])
        case.back()
        self.assertEqual(case.news(), [0])
        self.assertFalse(case.back())
        self.assertEqual(case.news(), [0])

    def test_watches_are_kept_whatever_comes(self):
        case = Watched(BAG)
        case.put((1,))
        case.watch(KIND, at=0)
        case.back()
        self.assertEqual(case.watches(), {0: None})
        self.assertEqual(case.watch(BAG_NAME), 1)

    def test_several_are_one(self):
        case = Watched(BAG)
        case.watch(BAG_NAME)
        case.watch(num(1))
        case.several([("put", (1,)), ("take", 0)])
        self.assertEqual(case.news(), [])
        case.several([("put", (1,)), ("set", ex("( < bag 7 )"), None)])
        self.assertEqual(case.news(), [0])
        case.several([])
        self.assertEqual(case.news(), [])

    def test_several_refused_whole_leave_the_news(self):
        case = Watched(BAG)
        case.watch(BAG_NAME)
        case.put((1,))
        case.watch(BAG_NAME)
        self.assert_refused(Broken(1), case.several, [("put", (1,)), ("put", None)])
        self.assertEqual(case.news(), [0])
        self.assert_refused(NotSuch(), case.put, None)
        self.assertEqual(case.news(), [0])

    def test_several_told_to_stay(self):
        case = Watched(BAG)
        case.watch(BAG_NAME)
        case.put((1,))
        case.watch(BAG_NAME)
        self.assert_refused(Broken(1), case.several, [("put", (1,)), ("put", None)], stay=True)
        self.assertEqual(case.news(), [0, 1])
        self.assert_refused(Broken(0), case.several, [("put", None)], stay=True)
        self.assertEqual(case.news(), [])

    def test_what_is_told_is_the_askers_own(self):
        case = Watched(BAG)
        case.watch(BAG_NAME)
        case.put((1,))
        case.watches().clear()
        case.news().clear()
        self.assertEqual((case.watches(), case.news()), ({0: (3, 4)}, [0]))

    def test_asks_change_nothing(self):
        case = Watched(PICK)
        case.put((1,))
        ahead = state_of(case)
        case.watch(name("a"))
        case.watches(), case.news()
        self.assertEqual(state_of(case), ahead)

    def test_arguments(self):
        self.assertEqual(str(inspect.signature(Watched)), "(book)")
        for word, told in (
            ("watch", "(self, ask, *, at=None, given=('num', 1))"), ("watches", "(self)"), ("news", "(self)"),
        ):
            self.assertEqual(str(inspect.signature(getattr(Watched, word))), told)
            self.assertIn(word, vars(Watched))
        case = Watched(book=BAG)
        self.assertEqual(case.watch(given=ALWAYS, at=None, ask=BAG_NAME), 0)
        with self.assertRaises(TypeError):
            case.watch(BAG_NAME, None)

    def test_some_histories(self):
        many_news = 0
        for seed in range(150):
            source = source_of(seed)
            book = small_book(source, most=16)
            case, slow, watches = Watched(book), SlowCase(book), []

            def answers(now):
                return [
                    None if at is not None and at not in now[0] else slow_answer(book, now[0], now[1], ask, at, given)
                    for since, ask, at, given in watches
                ]

            for k in range(14):
                kind = source.randrange(8)
                if kind <= 1 and len(watches) < 6:
                    at = place_of(source, slow.now[0])
                    ask = ask_at(source, book, at)
                    given = ALWAYS if source.randrange(2) else ask_at(source, book, at)
                    self.assertEqual(case.watch(ask, at=at, given=given), len(watches))
                    watches.append((slow.deeds, ask, at, given))
                elif kind == 2 or not within_bounds(slow.now, len(slow.prior)):
                    self.assertEqual(case.back(), slow.back())
                elif kind == 3:
                    deeds = [good_deed(source, book, slow.now), ("take", -1)][:source.randrange(3)]
                    stay = source.randrange(2) == 1
                    told, broken = slow.several(deeds, stay)
                    if broken is None:
                        self.assertEqual(case.several(deeds, stay=stay), told)
                    else:
                        self.assert_refused(Broken(broken), case.several, deeds, stay=stay)
                else:
                    deed = good_deed(source, book, slow.now)
                    self.assertEqual(deed_by_method(case, deed), slow.do(deed))
                now = answers(slow.now)
                self.assertEqual(list(case.watches().items()), list(enumerate(now)))
                news = []
                if slow.ahead is not None:
                    ahead = answers(slow.ahead)
                    news = [n for n in range(len(watches)) if watches[n][0] < slow.deeds and ahead[n] != now[n]]
                self.assertEqual(case.news(), news)
                many_news += len(news)
        self.assertGreater(many_news, 100)


if __name__ == "__main__":
    unittest.main()
