"""Points 39 and 40: the desk, what it is told and what it tells."""

import inspect
import unittest

from chancetongue.answers import answer_of, mean_of, spread_of
from chancetongue.booktexts import book_text, read_book
from chancetongue.cases import Case
from chancetongue.cores import core_of
from chancetongue.desk import Desk
from chancetongue.errors import NoAsk, NoBook, NoCondition, NoRow, NotSuch, NoText, NoWays, Unsaid
from chancetongue.exprtexts import read_expression, show_expression
from chancetongue.shares import quotient_of, share_text
from chancetongue.splits import split_of
from tests.checking import Refusing
from tests.making import num, source_of
from tests.slowcase import deed_by_method, state_of
from tests.somebooks import BAG, BAG_TEXT, EMPTY, PICK, ask_at, bad_deed, good_deed, small_book


def said_book(text):
    return "book " + text.replace("\n", " ; ")


def desk_of(text, *rows):
    desk = Desk()
    desk.say(said_book(text))
    for row in rows:
        desk.say(row)
    return desk


class DeskTest(Refusing):
    def assert_says_no(self, wanted, desk, row):
        self.assert_refused(wanted, desk.say, row)

    def assert_says(self, desk, *told):
        for row, answer in told:
            self.assertEqual(desk.say(row), answer, row)


class Said(DeskTest):
    def test_books(self):
        for text, told in (
            (BAG_TEXT, "1 unknowns, 1 fields"), ("fields", "0 unknowns, 0 fields"), ("fields a b c", "0 unknowns, 3 fields"),
            (book_text(PICK), "2 unknowns, 1 fields"), (book_text(EMPTY), "1 unknowns, 1 fields"),
        ):
            self.assertEqual(Desk().say(said_book(text)), told)

    def test_put(self):
        self.assert_says(desk_of(BAG_TEXT), ("put 1", "row 0"), ("put 0", "row 1"), ("put 999", "row 2"))
        self.assert_says(desk_of("fields a b c"), ("put 1 2 3", "row 0"), ("put 0 0 0", "row 1"))

    def test_a_book_without_fields(self):
        desk = desk_of("fields\ndraw x from 1 : 0 , 3 : 1")
        self.assert_says(
            desk, ("put", "row 0"), ("put", "row 1"), ("change 1", "remade 2"), ("ask x at 1", "3/4"), ("take 0", "remade 1"),
        )
        self.assert_says_no(NotSuch(), desk, "put 1")
        self.assert_says_no(NotSuch(), desk, "change 1 1")

    def test_change_take_and_drop(self):
        desk = desk_of(BAG_TEXT, "put 1", "put 0", "put 1", "set kind at 1", "set bag")
        self.assert_says(
            desk, ("change 0 0", "remade 3"), ("change 0 0", "remade 3"), ("drop 0", "remade 3"), ("drop 1", "remade 1"),
            ("take 2", "remade 2"), ("take 1", "remade 2"),
        )

    def test_set(self):
        desk = desk_of(BAG_TEXT, "put 1")
        self.assert_says(
            desk, ("set bag", "given 0, remade 1"), ("set kind at 0", "given 1, remade 1"), ("put 0", "row 1"),
            ("set ( | bag kind ) at 1", "given 2, remade 2"), ("set ( = bag 1 )", "given 3, remade 1"), ("set 1", "given 4, remade 1"),
        )

    def test_back(self):
        desk = desk_of(BAG_TEXT)
        self.assert_says(
            desk, ("back", "nothing"), ("put 1", "row 0"), ("set bag", "given 0, remade 1"), ("back", "back"),
            ("ask bag", "3/4"), ("back", "back"), ("back", "nothing"), ("ask bag", "2/3"), ("put 0", "row 0"),
        )

    def test_ask(self):
        desk = desk_of(BAG_TEXT)
        self.assert_says(desk, ("ask bag", "2/3"), ("ask 1", "1"), ("ask 0", "0"), ("ask bag given bag", "1"))
        self.assert_says(
            desk, ("put 1", "row 0"), ("put 0", "row 1"), ("ask bag", "3/5"), ("ask ( not bag )", "2/5"),
            ("ask bag given ( not bag )", "0"), ("ask kind at 0", "1/2"), ("ask ( & bag kind ) at 1", "3/10"),
            ("ask kind at 0 given ( | bag kind )", "5/8"), ("ask bag at 0 given ( | bag kind )", "3/4"),
        )

    def test_mean_and_spread(self):
        desk = desk_of(book_text(PICK))
        self.assert_says(
            desk, ("mean ( + a b )", "7/4"), ("mean 17", "17"), ("mean 0", "0"), ("spread a", "0 1/3 , 1 1/3 , 2 1/3"),
            ("spread ( + a b )", "0 1/12 , 1 1/3 , 2 1/3 , 3 1/4"), ("spread ( - 0 a )", "0 1/3 , 998 1/3 , 999 1/3"),
            ("spread 17", "17 1"), ("put 1", "row 0"), ("spread a", "0 1/2 , 2 1/2"), ("mean a", "1"),
        )

    def test_why(self):
        desk = desk_of(BAG_TEXT)
        self.assert_says(
            desk, ("why bag", "2/3"), ("why 0", "0"), ("put 1", "row 0"), ("why bag", "2/3 , row 0 9/8"), ("put 0", "row 1"),
            ("set ( | bag kind ) at 0", "given 0, remade 2"), ("why bag", "2/3 , row 0 9/8 , row 1 4/5 , given 0 5/4"),
            ("why ( not bag )", "1/3 , row 0 3/4 , row 1 8/5 , given 0 5/8"), ("set bag", "given 1, remade 1"),
            ("why ( not bag )", "1/3 , row 0 3/4 , row 1 8/5 , given 0 5/8 , given 1 0"), ("why ( = bag 7 )", "0"),
        )

    def test_core(self):
        desk = desk_of(BAG_TEXT)
        self.assert_says(
            desk, ("core", "none"), ("put 1", "row 0"), ("core", "none"), ("put 5", "row 1"), ("core", "row 1"),
            ("back", "back"), ("set bag", "given 0, remade 1"), ("set ( not bag )", "given 1, remade 1"),
            ("core", "given 0 , given 1"), ("back", "back"), ("set ( not seen ) at 0", "given 1, remade 1"),
            ("core", "row 0 , given 1"), ("drop 1", "remade 1"), ("core", "none"),
        )
        self.assert_says(desk_of(book_text(EMPTY)), ("core", "empty"), ("put 1", "row 0"), ("core", "empty"))

    def test_two_desks(self):
        one, other = desk_of(BAG_TEXT), desk_of(BAG_TEXT)
        self.assert_says(one, ("put 1", "row 0"), ("ask bag", "3/4"))
        self.assert_says(other, ("ask bag", "2/3"), ("put 0", "row 0"), ("ask bag", "1/2"))
        self.assert_says(one, ("ask bag", "3/4"), ("put 1", "row 1"))
        self.assert_says_no(Unsaid(), Desk(), "ask bag")

    def test_a_second_book_begins_a_new_case(self):
        desk = desk_of(BAG_TEXT, "put 1", "set bag")
        self.assert_says(
            desk, (said_book(BAG_TEXT), "1 unknowns, 1 fields"), ("ask bag", "2/3"), ("back", "nothing"), ("put 1", "row 0"),
            ("book fields", "0 unknowns, 0 fields"), ("put", "row 0"),
        )
        self.assert_says_no(NoAsk(0), desk, "ask bag")

    def test_arguments(self):
        self.assertEqual(str(inspect.signature(Desk)), "()")
        self.assertEqual(str(inspect.signature(Desk.say)), "(self, row)")
        self.assertIn("say", vars(Desk))
        self.assertEqual(Desk().say(row="book fields"), "0 unknowns, 0 fields")


class Refused(DeskTest):
    def assert_each(self, wanted, desk, *rows):
        for row in rows:
            self.assert_says_no(wanted, desk, row)

    def setUp(self):
        self.desk = desk_of(BAG_TEXT, "put 1", "put 0", "set kind at 0", "set ( < bag 9 )")

    UNSAID = (
        "", " ", "  ", "jump", "Book fields", "books fields", "asks bag", "given bag", "at 0", "row 0", "back ", " back", "back 1",
        "back  ", "core ", " core", "core 1", "core bag", "put x", "put 01", "put 00", "put 1000", "put -1", "put +1", "put 1 ",
        "put  1", "put 1  2", " put 1", "put 1 x", "put ", "put 1.0", "put bag", "put ( 1 )", "put 1,", "change", "change ",
        "change x 1", "change 01 1", "change 0 x", "change 0 01", "change 0 1000", "change 1000 1", "change 0 1 ", "change  0 1",
        "change 0  1", "change -1 1", "change 0 ", "take", "take ", "take x", "take 01", "take 1000", "take -1", "take 0 ", "take  0",
        "take 0 1", "take bag", "drop", "drop ", "drop x", "drop 01", "drop 1000", "drop -1", "drop 0 1", "drop 0 ", "drop  0",
        "set", "set ", "set at 0", "set  at 0", "set kind at 01", "set kind at x", "set kind at 1000", "set kind at -1",
        "set kind at ", "set zz at bag", "set ( at zz", "ask", "ask ", "ask at 0", "ask given bag", "ask  given bag", "ask bag given",
        "ask bag given ", "ask kind at 0 given", "ask kind at 0 given ", "ask at 0 given bag", "ask  at 0 given bag",
        "ask kind at x", "ask kind at 00", "ask kind at 1000", "ask kind at ", "ask kind at x given bag", "ask kind at 0x given bag",
        "ask kind at  given bag", "ask given", "ask given ", "ask given given bag", "ask zz at zz", "ask ( at bag given )",
        "mean", "mean ", "spread", "spread ", "why", "why ", "book", "book ", "ask\n", "\n", "ask bag\n", "\nask bag", "ask\nbag",
        "ask ( not\nbag )", "put 1\n", "put\n1", "book fields\n", "book fields\nset x 1", "back\n", "core\n", "mean\n1", "BACK", "tell bag",
        "remade", "none", "nothing", "mean\n", "take\n0", "ask bag given 1\n",
    )

    def test_unsaid(self):
        self.assert_each(Unsaid(), self.desk, *self.UNSAID)

    def test_unsaid_where_no_book_is_kept(self):
        desk = Desk()
        self.assert_each(Unsaid(), desk, *self.UNSAID)
        self.assert_each(
            Unsaid(), desk, "put 1", "put", "change 0 1", "change 0", "take 0", "drop 0", "set bag", "set bag at 0", "back",
            "ask bag", "ask (", "ask bag given (", "ask bag at 0", "mean bag", "mean (", "spread bag", "why bag", "core", "set ( at 0",
        )
        self.assert_says_no(NoText(0), desk, "book jump")
        self.assert_says_no(NoBook("twice", ("field", 1)), desk, "book fields a a")
        self.assert_says_no(Unsaid(), desk, "core")
        desk.say("book fields")
        self.assert_says(desk, ("core", "none"))

    def test_texts_of_books(self):
        for text, at in (
            (" fields", 0), ("fields ", 0), ("fields  a", 0), ("fields ; ", 1), (" ; fields", 0), ("fields ;", 0), ("; fields", 0),
            ("fields ; ; see 1", 1), ("fields ;  ; see 1", 1), ("fields ; see", 1), ("fields ; see 1 ; see ", 2),
            ("fields ; see  1", 1), ("unknown a from 1 : 1", 1), ("fields ; if 1", 2), ("fields ; if 1 ; else", 3), ("see 1", 0),
            ("fields ; set at 1", 1), ("fields ; see given", 1), ("fields given", 0), ("fields at", 0), ("fields x;see 1", 0),
            (" ", 0), ("  ", 0), (";", 0), (" ; ", 0), ("fields ; see 1 ;", 1), ("fields ; times 2 ; see 1 ; end ; end", 4),
        ):
            self.assert_says_no(NoText(at), self.desk, "book " + text)
            self.assert_says_no(NoText(at), Desk(), "book " + text)

    def test_blanks_from_the_left_on(self):
        # Of ` ; ; ` the first three signs stand for a line feed, and the rest is a row's own.
        with self.assertRaises(NoText) as caught:
            read_book("fields\n; see 1")
        self.assertEqual(caught.exception.at, 1)
        self.assert_says_no(NoText(1), Desk(), "book fields ; ; see 1")
        self.assert_says_no(NoText(2), Desk(), "book fields ; see 1 ; ; ; see 1")

    def test_books_that_are_not_let_by(self):
        for text, word, place in (
            ("fields a a", "twice", ("field", 1)), ("fields a ; set a 1", "kept", ("body", 0)), ("fields ; see x", "lost", ("body", 0)),
            ("fields ; times 9 ; end", "times", ("body", 0)), ("unknown a from x : 1 ; fields", "lost", ("unknown", 0)),
        ):
            self.assert_says_no(NoBook(word, place), self.desk, "book " + text)
            self.assert_says_no(NoBook(word, place), Desk(), "book " + text)

    def test_a_refused_book_leaves_the_one_that_is_kept(self):
        for row in ("book", "book ", "book jump", "book fields a a", "book fields\n"):
            with self.assertRaises((Unsaid, NoText, NoBook)):
                self.desk.say(row)
            self.assert_says(self.desk, ("ask bag", "3/5"), ("ask kind at 0", "1"))
        self.assert_says(self.desk, ("put 1", "row 2"))

    def test_a_word_behind_at_that_is_no_number(self):
        self.assert_each(Unsaid(), self.desk, "set ( not at )", "ask ( not at )", "ask ( not at ) given bag", "ask at at")
        self.assert_says_no(NoText(2), self.desk, "mean ( not at )")

    def test_expressions_that_are_none(self):
        for text, at in (
            ("(", 1), ("( not", 2), ("bag )", 1), (")", 0), ("1000", 0), ("01", 0), (" bag", 0), ("bag ", 1), ("( not  bag )", 2),
            ("  ", 0), ("at", 0), ("( not at 1 )", 2), ("bag at", 1), ("bag at 0 1", 1), ("( + 1 at", 3), ("longname", 0), ("Bag", 0),
            ("( at 1 2 )", 1),
        ):
            for word in ("set", "ask", "mean", "spread", "why"):
                self.assert_says_no(NoText(at), self.desk, f"{word} {text}")
            self.assert_says_no(NoText(at), self.desk, f"ask {text} given bag")
            self.assert_says_no(NoText(at), self.desk, f"ask {text} given (")
            self.assert_says_no(NoText(at), self.desk, f"ask bag given {text}")
            self.assert_says_no(NoText(at), self.desk, f"ask kind at 0 given {text}")
            self.assert_says_no(NoText(at), self.desk, f"ask {text} at 0")
            self.assert_says_no(NoText(at), self.desk, f"ask {text} at 7 given zz")
            self.assert_says_no(NoText(at), self.desk, f"set {text} at 0")
            self.assert_says_no(NoText(at), self.desk, f"set {text} at 7")

    def test_words_of_an_expression_where_they_cannot_stand(self):
        for row, at in (
            ("mean bag at 0", 1), ("spread kind at 0", 1), ("why bag at 0", 1), ("mean bag given bag", 1), ("spread bag given bag", 1),
            ("why bag given bag", 1), ("mean at 0", 0), ("mean given", 0), ("why given bag", 0), ("spread at 0", 0),
            ("set bag given bag", 1), ("set given bag", 0), ("set kind at 0 given bag", 1), ("set bag given bag at 0", 1),
            ("set given", 0), ("set at", 0), ("ask at", 0), ("ask at 0 1", 0), ("ask kind at 0 0", 1), ("ask bag at", 1),
            ("mean bag at", 1), ("why given", 0), ("set given at 0", 0),
        ):
            self.assert_says_no(NoText(at), self.desk, row)

    def test_the_given_is_all_behind_the_first(self):
        for row, at in (
            ("ask bag given bag given bag", 1), ("ask bag given given", 0), ("ask bag given bag at 0", 1), ("ask bag given at 0", 0),
            ("ask kind at 0 given kind at 0", 1), ("ask bag given  bag", 0), ("ask bag given bag ", 1), ("ask bag given  ", 0),
        ):
            self.assert_says_no(NoText(at), self.desk, row)

    def test_of_two_texts_the_first(self):
        self.assert_says_no(NoText(1), self.desk, "ask ( given )")
        self.assert_says_no(NoText(0), self.desk, "ask ) given (")
        self.assert_says_no(NoText(2), self.desk, "ask ( not at 0 given )")

    def test_then_as_the_case_does(self):
        for row, wanted in (
            ("put", NotSuch()), ("put 1 2", NotSuch()), ("change 0", NotSuch()), ("change 0 1 2", NotSuch()), ("change 7 1 2", NoRow(7)),
            ("change 7", NoRow(7)), ("take 7", NoRow(7)), ("take 999", NoRow(999)), ("drop 7", NoCondition(7)), ("set zz", NoAsk(0)),
            ("set kind", NoAsk(0)), ("set ( + 1 zz ) at 0", NoAsk(2)), ("set zz at 7", NoRow(7)), ("ask zz", NoAsk(0)),
            ("ask kind", NoAsk(0)), ("ask zz at 7", NoRow(7)), ("ask zz at 7 given zz", NoRow(7)), ("ask zz at 0", NoAsk(0)),
            ("ask ( not zz ) given zz", NoAsk(1)), ("ask bag given zz", NoAsk(0)), ("ask bag given 0", NoWays()),
            ("ask kind at 0 given ( not kind )", NoWays()), ("mean zz", NoAsk(0)), ("spread kind", NoAsk(0)), ("why zz", NoAsk(0)),
        ):
            self.assert_says_no(wanted, self.desk, row)
        self.assert_says(self.desk, ("set 0", "given 2, remade 1"))
        for row in ("ask bag", "mean bag", "spread bag", "why bag", "ask kind at 0"):
            self.assert_says_no(NoWays(), self.desk, row)
        for row in ("ask zz", "mean zz", "spread zz", "why zz"):
            self.assert_says_no(NoAsk(0), self.desk, row)
        self.assert_says_no(NoRow(7), self.desk, "ask bag at 7")

    def test_what_was_taken_is_not_there(self):
        self.assert_says(self.desk, ("take 0", "remade 1"))
        for row, wanted in (
            ("take 0", NoRow(0)), ("change 0 1", NoRow(0)), ("drop 0", NoCondition(0)), ("ask kind at 0", NoRow(0)),
            ("set kind at 0", NoRow(0)),
        ):
            self.assert_says_no(wanted, self.desk, row)

    def test_what_is_refused_changes_nothing(self):
        ahead = (state_of(self.desk.case), self.desk.case.nodes())
        for row in (
            *self.UNSAID, "put 1 2", "change 0", "change 7 1", "take 7", "drop 7", "set zz", "set kind at 7", "set ( ", "ask zz",
            "ask bag given 0", "ask (", "mean zz", "why zz", "book jump", "book fields a a",
        ):
            with self.assertRaises((ValueError, LookupError)):
                self.desk.say(row)
        self.assertEqual((state_of(self.desk.case), self.desk.case.nodes()), ahead)
        self.assert_says(self.desk, ("put 1", "row 2"), ("set 1", "given 2, remade 1"))


class BesideACase(DeskTest):
    """Whole histories on a desk and on a case beside it tell the same, from the book's text to the answer's text."""

    def row_of(self, deed):
        word, *rest = deed
        if word == "set":
            return f"set {show_expression(rest[0])}" + ("" if rest[1] is None else f" at {rest[1]}")
        if word in ("put", "change"):
            numbers = [*rest[:-1], *rest[-1]]
            return " ".join([word, *[str(number) for number in numbers]])
        return f"{word} {rest[0]}"

    def can_be_said(self, deed):
        """Whether all of a deed that is to be a number or a row can be written as figures."""
        if deed[0] in ("put", "change") and not isinstance(deed[-1], tuple):
            return False
        numbers = [*deed[1:-1], *deed[-1]] if deed[0] in ("put", "change") else deed[-1:]
        return all(number is None or type(number) is int and 0 <= number <= 999 for number in numbers)

    def told_of(self, case, deed, told):
        remade = f"remade {len(case.remade())}"
        return {"put": f"row {told}", "set": f"given {told}, {remade}"}.get(deed[0], remade)

    def assert_alike(self, desk, row, call):
        """What the desk says is what the call tells, or both are refused alike."""
        try:
            told = call()
        except (ValueError, LookupError) as refused:
            self.assert_says_no(refused, desk, row)
            return False
        self.assertEqual(desk.say(row), told, row)
        return True

    def asked(self, source, book, desk, case):
        ask = ask_at(source, book, None)
        text = show_expression(ask)
        so = self.assert_alike(desk, f"ask {text}", lambda: share_text(answer_of(case, ask)))
        self.assert_alike(desk, f"mean {text}", lambda: share_text(mean_of(case, ask)))
        self.assert_alike(desk, f"spread {text}", lambda: " , ".join(
            f"{value} {share_text(share)}" for value, share in spread_of(case, ask).items()
        ))

        def why():
            first, steps = split_of(case, ask)
            parts = [f"{word} {n} {share_text(quotient_of(up, down))}" for (word, n), up, down in steps]
            return " , ".join([share_text(first), *parts])

        self.assert_alike(desk, f"why {text}", why)
        core = core_of(case)
        told = "none" if core is None else " , ".join(f"{word} {n}" for word, n in core[0]) or "empty"
        self.assertEqual(desk.say("core"), told)
        self.assertEqual(core is None, self.assert_alike(desk, "ask 1", lambda: share_text(answer_of(case, num(1)))))
        given = ask_at(source, book, None)
        self.assert_alike(
            desk, f"ask {text} given {show_expression(given)}", lambda: share_text(answer_of(case, ask, given=given)),
        )
        for at in (*case.rows(), 99):
            ask, given = ask_at(source, book, at), ask_at(source, book, at)
            texts = show_expression(ask), show_expression(given)
            self.assert_alike(desk, f"ask {texts[0]} at {at}", lambda: share_text(answer_of(case, ask, at=at)))
            self.assert_alike(
                desk, f"ask {texts[0]} at {at} given {texts[1]}",
                lambda: share_text(answer_of(case, ask, at=at, given=given)),
            )
        return so

    def test_some_histories(self):
        answered = 0
        for seed in range(80):
            source = source_of(seed)
            book = small_book(source, most=12)
            desk, case = Desk(), Case(read_book(book_text(book)))
            self.assertEqual(
                desk.say(said_book(book_text(book))), f"{len(book[0])} unknowns, {len(book[1])} fields",
            )
            many = [0, 0]
            for k in range(10):
                now = (case.rows(), case.conditions(), *many)
                kind = source.randrange(6)
                if kind == 0:
                    self.assertEqual(desk.say("back"), "back" if case.back() else "nothing")
                    continue
                deed = good_deed(source, book, now) if kind > 1 else bad_deed(source, book, now)
                if not self.can_be_said(deed):
                    continue

                def done():
                    return self.told_of(case, deed, deed_by_method(case, deed))

                if self.assert_alike(desk, self.row_of(deed), done):
                    many[0] += deed[0] == "put"
                    many[1] += deed[0] == "set"
                self.assertEqual(state_of(desk.case), state_of(case))
                answered += self.asked(source, book, desk, case)
        self.assertGreater(answered, 150)

    def test_from_text_to_text(self):
        rows = [
            said_book(BAG_TEXT), "put 1", "put 0", "ask bag", "set ( | bag kind ) at 0", "ask bag", "take 1", "ask bag", "back",
            "ask kind at 0 given bag", "core", "why bag", "spread ( + bag 3 )", "mean ( * bag 10 )",
        ]
        desk = Desk()
        self.assertEqual([desk.say(row) for row in rows], [
            "1 unknowns, 1 fields", "row 0", "row 1", "3/5", "given 0, remade 2", "3/4", "remade 1", "6/7", "back", "1/2", "none",
            "2/3 , row 0 9/8 , row 1 4/5 , given 0 5/4", "3 1/4 , 4 3/4", "15/2",
        ])
        self.assertEqual(desk.case.book(), BAG)
        self.assertEqual(read_expression("( | bag kind )"), desk.case.conditions()[0][0])


if __name__ == "__main__":
    unittest.main()
