"""Points 11, 12 and 13: what is known where, books and asks looked at."""

import inspect
import unittest

from chancetongue import looking
from chancetongue.books import statements_of
from chancetongue.booktexts import read_book
from chancetongue.errors import NoAsk, NoBook
from chancetongue.expressions import is_name, parts_of
from chancetongue.exprtexts import read_expression
from chancetongue.looking import known_at, known_behind, look, look_ask
from tests.making import SIGNS, WORDS, name, num, op, some_book, source_of

ONE = ((num(1), num(1)),)
NO_NAMES = ("", "abcdefg", "A", "a1", "a b", "a\n", "1", *WORDS)
BAD_NUMBERS = (-1, 1000, -999, 10 ** 50, -10 ** 50)
BAD_SIGNS = ("", "/", "<=", "+-", "not", "if", "plus", " +", "\n")


def book_of(*rows):
    return read_book("\n".join(rows))


def body_of(*statements):
    return ((("a", ONE), ("b", ONE)), ("f", "g"), statements)


def states_through(block, states, seen, start):
    """All sets of names that can be set behind a block; seen takes, by number, those at each statement."""
    at = start
    for statement in block:
        seen.setdefault(at, set()).update(states)
        kind = statement[0]
        if kind in ("draw", "set"):
            states = {state | {statement[1]} for state in states}
        elif kind == "if":
            one = states_through(statement[2], states, seen, at + 1)
            states = one | states_through(statement[3], states, seen, at + 1 + size_of(statement[2]))
        elif kind == "times":
            for k in range(statement[1]):
                states = states_through(statement[2], states, seen, at + 1)
        at += size_of((statement,))
    return states


def size_of(block):
    return len(statements_of(((), (), block)))


def always(states):
    return tuple(sorted(frozenset.intersection(*states)))


class Known(unittest.TestCase):
    def assert_known(self, book, at, behind):
        for again in range(2):
            self.assertEqual([known_at(book, n) for n in range(len(statements_of(book)))], at)
            self.assertEqual(known_behind(book), behind)

    def test_none(self):
        self.assert_known(((), (), ()), [], ())
        self.assert_known(book_of("unknown a from 1 : 1", "fields f", "see a"), [()], ())

    def test_draws_and_sets_rising(self):
        book = book_of("fields f", "set z 1", "draw b from 1 : 1", "set a f", "see 1", "set b 2")
        self.assert_known(book, [(), ("z",), ("b", "z"), ("a", "b", "z"), ("a", "b", "z")], ("a", "b", "z"))

    def test_rising_as_texts_do(self):
        book = book_of("fields", "set b 1", "set aa 1", "set a 1", "set ab 1")
        self.assert_known(book, [(), ("b",), ("aa", "b"), ("a", "aa", "b")], ("a", "aa", "ab", "b"))

    def test_behind_an_if_what_both_blocks_know(self):
        book = book_of(
            "fields", "set k 1", "if k", "set x 1", "set both 1", "see 1", "else", "set y 1", "set both 2", "see 1",
            "end", "see 1",
        )
        self.assert_known(
            book,
            [(), ("k",), ("k",), ("k", "x"), ("both", "k", "x"), ("k",), ("k", "y"), ("both", "k", "y"), ("both", "k")],
            ("both", "k"),
        )

    def test_an_empty_block_knows_what_was_known(self):
        self.assert_known(book_of("fields", "set k 1", "if 1", "set x 1", "else", "end"), [(), ("k",), ("k",)], ("k",))
        self.assert_known(book_of("fields", "set k 1", "if 1", "else", "set x 1", "end"), [(), ("k",), ("k",)], ("k",))
        self.assert_known(book_of("fields", "if 1", "else", "end", "times 2", "end"), [(), ()], ())

    def test_behind_a_times_what_its_block_knows(self):
        book = book_of("fields", "times 2", "see 1", "set x 1", "end", "see 1")
        self.assert_known(book, [(), (), (), ("x",)], ("x",))

    def test_within_one_another(self):
        book = book_of(
            "fields", "times 3", "if 1", "times 1", "set x 1", "end", "set y 1", "else", "draw x from 1 : 1", "end",
            "see x", "end",
        )
        self.assert_known(book, [(), (), (), (), ("x",), (), ("x",)], ("x",))

    def test_unknowns_and_fields_are_no_locals(self):
        book = book_of("unknown a from 1 : 1", "fields f", "set x a", "see f")
        self.assert_known(book, [(), ("x",)], ("x",))

    def test_some_books(self):
        for k in range(300):
            book = some_book(source_of(k))
            seen = {}
            behind = states_through(book[2], {frozenset()}, seen, 0)
            self.assert_known(book, [always(seen[n]) for n in sorted(seen)], always(behind))

    def test_arguments(self):
        for word, told in (
            ("known_at", "(book, n)"), ("known_behind", "(book)"), ("look", "(book)"),
            ("look_ask", "(book, ask, *, at_row=False)"),
        ):
            self.assertEqual(str(inspect.signature(getattr(looking, word))), told)
        book = body_of(("set", "x", num(1)), ("see", num(1)))
        self.assertEqual(known_at(n=1, book=book), ("x",))


def amiss_in(expressions, known):
    for expression in expressions:
        for part in parts_of(expression):
            if part[0] == "num" and part[1] not in range(1000):
                yield "num"
            elif part[0] == "op" and part[1] not in SIGNS:
                yield "sign"
            elif part[0] == "name" and part[1] not in known:
                yield "lost"


def all_amiss(book):
    """All that is amiss with a book, in the document's order."""
    taken = []
    for k, (x, alts) in enumerate(book[0]):
        words = ["name"] * (not is_name(x)) + ["twice"] * (x in taken) + list(amiss_in(sum(alts, ()), taken))
        yield from [(word, ("unknown", k)) for word in words]
        taken.append(x)
    for k, x in enumerate(book[1]):
        yield from [(word, ("field", k)) for word in ["name"] * (not is_name(x)) + ["twice"] * (x in taken)]
        taken.append(x)
    seen = {}
    states_through(book[2], {frozenset()}, seen, 0)
    for n, statement in enumerate(statements_of(book)):
        kind, words, own = statement[0], [], ()
        if kind in ("draw", "set"):
            words = ["name"] * (not is_name(statement[1])) + ["kept"] * (statement[1] in taken)
            own = sum(statement[2], ()) if kind == "draw" else (statement[2],)
        elif kind == "times":
            words = ["times"] * (statement[1] not in (1, 2, 3))
        else:
            own = (statement[1],)
        # A statement behind a times of nought is never come to; that times is refused ahead of it.
        known = [*taken, *always(seen[n])] if n in seen else taken
        words.extend(amiss_in(own, known))
        yield from [(word, ("body", n)) for word in words]


class Looked(unittest.TestCase):
    def assert_refused(self, book, word, place):
        for again in range(2):
            with self.assertRaises(NoBook, msg=book) as caught:
                look(book)
            self.assertEqual((caught.exception.word, caught.exception.place), (word, place), book)

    def test_let_by(self):
        self.assertIs(look(((), (), ())), True)
        self.assertIs(look(body_of(("set", "x", num(0)), ("set", "x", name("x")), ("see", num(999)))), True)
        for k in range(300):
            self.assertIs(look(some_book(source_of(k))), True)

    def test_let_by_at_its_edges(self):
        for k in (1, 2, 3):
            self.assertIs(look(body_of(("times", k, ()))), True)
        for sign in SIGNS:
            self.assertIs(look(body_of(("see", op(sign, name("a"), name("g"))))), True)
        many = tuple(("times", 1, (("set", "x", num(1)),)) for k in range(40))
        self.assertIs(look(body_of(*many)), True)

    def test_names_of_unknowns(self):
        for text in NO_NAMES:
            self.assert_refused((((text, ONE),), (), ()), "name", ("unknown", 0))
            self.assert_refused(((("a", ONE), ("b", ONE), (text, ONE)), (), ()), "name", ("unknown", 2))
        self.assert_refused(((("if", ONE), ("if", ONE)), (), ()), "name", ("unknown", 0))

    def test_unknowns_twice(self):
        self.assert_refused(((("a", ONE), ("a", ONE)), (), ()), "twice", ("unknown", 1))
        self.assert_refused(((("a", ONE), ("b", ONE), ("a", ONE)), (), ()), "twice", ("unknown", 2))

    def test_alternatives_of_unknowns_know_those_ahead(self):
        good = ((num(1), num(1)), (num(2), op("+", num(1), num(2))))
        for k in range(3):
            for x in ("a", "b", "c"):
                drawn = [("a", good), ("b", good), ("c", good)]
                drawn[k] = (drawn[k][0], ((num(1), num(2)), (num(3), name(x))))
                if x in ("a", "b", "c")[:k]:
                    self.assertIs(look((tuple(drawn), ("f",), ())), True)
                else:
                    self.assert_refused((tuple(drawn), ("f",), ()), "lost", ("unknown", k))
        for x in ("f", "x", "", "if"):
            book = ((("a", ((name(x), num(1)),)),), ("f",), (("set", "x", num(1)),))
            self.assert_refused(book, "lost", ("unknown", 0))

    def test_fields(self):
        for text in NO_NAMES:
            self.assert_refused(((), (text,), ()), "name", ("field", 0))
            self.assert_refused(((("a", ONE),), ("f", text, "f"), ()), "name", ("field", 1))
        self.assert_refused(((), ("f", "f"), ()), "twice", ("field", 1))
        self.assert_refused(((), ("f", "g", "f"), ()), "twice", ("field", 2))
        self.assert_refused(((("a", ONE), ("b", ONE)), ("b",), ()), "twice", ("field", 0))

    def test_names_of_draws_and_sets(self):
        for statement in (lambda x: ("draw", x, ONE), lambda x: ("set", x, num(1))):
            for text in NO_NAMES:
                self.assert_refused(body_of(("see", num(1)), statement(text)), "name", ("body", 1))
            for text in ("a", "b", "f", "g"):
                self.assert_refused(body_of(("times", 2, (statement(text),))), "kept", ("body", 1))
            self.assertIs(look(body_of(statement("x"), statement("x"), statement("af"))), True)

    def test_times(self):
        for k in (0, 4, -1, 9, 10 ** 50, -10 ** 50):
            self.assert_refused(body_of(("see", num(1)), ("times", k, ())), "times", ("body", 1))
            self.assert_refused(body_of(("times", k, (("see", name("lost")),)), ("see", num(-1))), "times", ("body", 0))
            self.assert_refused(body_of(("if", num(1), (), (("times", k, ()),))), "times", ("body", 1))

    def test_parts_of_each_own_expression(self):
        good = num(1)
        for word, parts in (
            ("num", [num(n) for n in BAD_NUMBERS]),
            ("sign", [op(sign, good, good) for sign in BAD_SIGNS]),
            ("lost", [name(x) for x in ("z", "x", "", "if", "A", "abcdefg")]),
        ):
            for part in parts:
                for made in (part, ("not", part), op("+", good, part), ("if", good, part, good), ("if", good, good, part)):
                    for statement in (
                        ("set", "x", made), ("see", made), ("if", made, (), ()), ("draw", "x", ((made, good),)),
                        ("draw", "x", ((good, made),)), ("draw", "x", ((good, good), (good, made))),
                    ):
                        self.assert_refused(body_of(("see", good), statement), word, ("body", 1))
                        self.assert_refused(body_of(("times", 2, (("see", good), statement))), word, ("body", 2))
                    self.assert_refused(((("u", ((good, good), (made, good))),), (), ()), word, ("unknown", 0))
                    self.assert_refused(((("u", ((good, made),)),), (), ()), word, ("unknown", 0))

    def test_lost_by_the_road(self):
        for rows, n in (
            (["see x", "set x 1"], 0), (["set x x"], 0), (["draw x from x : 1"], 0), (["draw x from 1 : x"], 0),
            (["if 1", "set x 1", "else", "see x", "end"], 2), (["if 1", "set x 1", "else", "end", "see x"], 2),
            (["if 1", "else", "set x 1", "end", "see x"], 2), (["if x", "set x 1", "else", "end"], 0),
            (["times 2", "see x", "set x 1", "end"], 1), (["times 3", "if 1", "see x", "else", "set x 1", "end", "end"], 2),
        ):
            self.assert_refused(book_of("fields f", *rows), "lost", ("body", n))
        for rows in (
            ["set x 1", "see x"], ["draw x from 1 : 1", "set x x"], ["times 1", "set x 1", "see x", "end", "see x"],
            ["if 1", "set x 1", "else", "draw x from 1 : 1", "end", "see x"], ["set x 1", "if x", "see x", "else", "see x", "end"],
        ):
            self.assertIs(look(book_of("fields f", *rows)), True)

    def test_the_first_in_order(self):
        bad, lost, sign = num(1000), name("z"), op("/", num(1), num(1))
        for statement, word in (
            (("see", op("/", bad, lost)), "sign"), (("see", op("+", bad, lost)), "num"), (("see", op("+", lost, bad)), "lost"),
            (("see", ("if", lost, sign, bad)), "lost"), (("see", op("+", ("not", lost), bad)), "lost"),
            (("draw", "x", ((bad, lost), (sign, sign))), "num"), (("draw", "x", ((num(1), lost), (bad, sign))), "lost"),
            (("draw", "if", ((bad, lost),)), "name"), (("draw", "a", ((bad, lost),)), "kept"), (("set", "", bad), "name"),
            (("set", "g", lost), "kept"), (("times", 0, (("see", bad),)), "times"), (("if", bad, (("see", lost),), ()), "num"),
        ):
            self.assert_refused(body_of(statement, ("set", "end", lost)), word, ("body", 0))
        body = (("set", "", bad),)
        self.assert_refused(((("a", ONE), ("a", ((bad, bad),))), ("a", ""), body), "twice", ("unknown", 1))
        self.assert_refused(((("a", ((num(1), bad),)), ("a", ONE)), ("", "a"), body), "num", ("unknown", 0))
        self.assert_refused(((("A", ((num(1), bad),)), ("a", ONE)), ("", "a"), body), "name", ("unknown", 0))
        self.assert_refused(((("a", ONE),), ("a", ""), body), "twice", ("field", 0))
        self.assert_refused(((("a", ONE),), ("", "a"), body), "name", ("field", 0))
        self.assert_refused(((("a", ONE),), ("f",), (("if", num(1), (("see", bad),), (("see", lost),)), ("see", sign))),
                            "num", ("body", 1))
        self.assert_refused(((("a", ONE),), ("f",), (("if", num(1), (), (("see", lost),)), ("see", sign))),
                            "lost", ("body", 1))

    def spoiled(self, source, thing):
        """A thing with a number, text or name in it made another one here and there."""
        if isinstance(thing, tuple):
            kept = thing[:1] if thing and thing[0] in ("num", "name", "op", "not", "if", "draw", "set", "see", "times") else ()
            return kept + tuple(self.spoiled(source, part) for part in thing[len(kept):])
        if source.randrange(25) > 0:
            return thing
        if isinstance(thing, int):
            return source.choice((-1, 0, 3, 4, 999, 1000))
        return source.choice(("/", "+", "", "a", "f", "p", "zz", "end"))

    def test_spoiled_books(self):
        words = {}
        for k in range(3000):
            source = source_of(k)
            book = self.spoiled(source, some_book(source))
            wrong = list(all_amiss(book))
            if wrong:
                self.assert_refused(book, *wrong[0])
                words[wrong[0][0], wrong[0][1][0]] = True
            else:
                self.assertIs(look(book), True)
        self.assertEqual(len(words), 5 + 2 + 6)


class Asked(unittest.TestCase):
    book = book_of(
        "unknown a from 1 : 1", "unknown b from 1 : 1", "fields f", "set x 1", "if x", "set y 1", "set z 1", "else",
        "set y 2", "end",
    )

    def assert_refused(self, ask, at, **more):
        for again in range(2):
            with self.assertRaises(NoAsk, msg=(ask, more)) as caught:
                look_ask(self.book, ask, **more)
            self.assertEqual(caught.exception.at, at, (ask, more))

    def test_of_the_whole_the_unknowns_are_known(self):
        for more in ({}, {"at_row": False}):
            for ask in (num(0), num(999), name("a"), name("b"), op("<", name("a"), ("not", name("b")))):
                self.assertIs(look_ask(self.book, ask, **more), True)
            for x in ("f", "x", "y", "z", "q", "", "if"):
                self.assert_refused(name(x), 0, **more)
                self.assert_refused(op("+", name("a"), name(x)), 2, **more)

    def test_at_a_row_all_that_is_known_behind_the_last(self):
        for x in ("a", "b", "f", "x", "y"):
            self.assertIs(look_ask(self.book, name(x), at_row=True), True)
            self.assertIs(look_ask(self.book, ("if", name(x), num(0), name("f")), at_row=True), True)
        for x in ("z", "q", "", "if"):
            self.assert_refused(name(x), 0, at_row=True)
            self.assert_refused(("if", name("f"), ("not", name("y")), name(x)), 4, at_row=True)

    def test_the_first_part_that_is_amiss(self):
        for more in ({}, {"at_row": False}, {"at_row": True}):
            for n in BAD_NUMBERS:
                self.assert_refused(num(n), 0, **more)
                self.assert_refused(op("+", ("not", name("a")), num(n)), 3, **more)
            for sign in BAD_SIGNS:
                self.assert_refused(op(sign, num(1000), name("z")), 0, **more)
                self.assert_refused(("not", op(sign, num(1), num(1))), 1, **more)
            self.assert_refused(("if", name("a"), name("z"), num(1000)), 2, **more)
            self.assert_refused(("if", name("a"), op("*", name("b"), num(-1)), op("/", num(1), num(1))), 4, **more)

    def test_the_number_among_all_parts(self):
        text = "( if ( + a b ) ( not ( = a 3 ) ) ( | b 0 ) )"
        parts = parts_of(read_expression(text))
        for at, word in enumerate([word for word in text.split(" ") if word not in ("(", ")")]):
            if word in ("a", "b"):
                words = [part for part in text.split(" ")]
                places = [k for k, part in enumerate(words) if part not in ("(", ")")]
                words[places[at]] = "q"
                self.assertEqual(parts[at], name(word))
                self.assert_refused(read_expression(" ".join(words)), at)

    def test_by_place_and_by_names(self):
        self.assertIs(look_ask(ask=name("f"), at_row=True, book=self.book), True)
        with self.assertRaises(TypeError):
            look_ask(self.book, name("f"), True)


if __name__ == "__main__":
    unittest.main()
