"""Point 7: expressions as texts."""

import inspect
import re
import unittest

from chancetongue import exprtexts
from chancetongue.errors import NoText
from chancetongue.exprtexts import read_expression, show_expression
from tests.making import SIGNS, WORDS, deep_expression, mutations, name, num, op, some_expression, source_of

MANY = {"not": 1, "if": 3, **{sign: 2 for sign in SIGNS}}
POOL = [*SIGNS, *WORDS, "(", ")", "", "a", "ab", "abcdef", "abcdefg", "0", "7", "42", "999", "1000", "01", "00", "-1",
        "A", "a1", "((", "()", "\n", "a\n", "<=", "+-", ":", ",", "."]


def is_leaf(word):
    return re.fullmatch("0|[1-9][0-9]{0,2}", word) or (re.fullmatch("[a-z]{1,6}", word) and word not in WORDS)


def first_wrong(words):
    """The number of the first word by which words can't be an expression; None where they are one."""
    wanted, within = ["expression"], 0
    for at, word in enumerate(words):
        want = wanted.pop() if wanted else "nothing"
        if want == "expression" and word == "(" and within < 30:
            within += 1
            wanted.append("head")
        elif want == "head" and word in MANY:
            wanted.extend([")"] + ["expression"] * MANY[word])
        elif want == ")" and word == ")":
            within -= 1
        elif not (want == "expression" and is_leaf(word)):
            return at
    return len(words) if wanted else None


class Shown(unittest.TestCase):
    def test_each_form(self):
        a, b = name("a"), name("bc")
        for made, text in (
            (num(0), "0"), (num(7), "7"), (num(10), "10"), (num(999), "999"), (a, "a"), (name("abcdef"), "abcdef"),
            (("not", a), "( not a )"), (("if", num(0), a, b), "( if 0 a bc )"),
            (op("-", ("not", a), ("if", a, b, num(5))), "( - ( not a ) ( if a bc 5 ) )"),
            *[(op(sign, a, b), f"( {sign} a bc )") for sign in SIGNS],
        ):
            self.assertEqual(show_expression(made), text)
            self.assertEqual(read_expression(text), made)

    def test_each_number(self):
        for n in range(1000):
            self.assertEqual(show_expression(num(n)), str(n))
            self.assertEqual(read_expression(str(n)), num(n))

    def test_many_are_read_again(self):
        texts = {}
        for k in range(400):
            made = some_expression(source_of(k), ("a", "b", "cc", "ends"), 6)
            text = show_expression(made)
            self.assertEqual(read_expression(text), made)
            self.assertEqual(show_expression(read_expression(text)), text)
            self.assertEqual(texts.setdefault(text, made), made)

    def test_what_is_told_is_tuples_of_the_told_kinds(self):
        told = read_expression("( if ( not a ) ( + 1 b ) 0 )")
        self.assertEqual(repr(told), "('if', ('not', ('name', 'a')), ('op', '+', ('num', 1), ('name', 'b')), ('num', 0))")

    def test_arguments(self):
        self.assertEqual(str(inspect.signature(exprtexts.show_expression)), "(expression)")
        self.assertEqual(str(inspect.signature(exprtexts.read_expression)), "(text)")
        self.assertEqual(read_expression(text=show_expression(expression=num(3))), num(3))


class Refused(unittest.TestCase):
    def assert_refused(self, text, at):
        with self.assertRaises(NoText, msg=repr(text)) as caught:
            read_expression(text)
        self.assertEqual(caught.exception.at, at, repr(text))

    def test_texts(self):
        for text, at in (
            ("", 0), (" ", 0), ("\n", 0), ("(", 1), (")", 0), ("( )", 1), ("( a )", 1), ("( 1 )", 1), ("( (", 1),
            ("a b", 1), ("a )", 1), ("a ", 1), (" a", 0), ("1 2", 1), ("+ 1 2", 0), ("( +", 2), ("( + 1", 3),
            ("( + 1 2", 4), ("( + 1 2 3 )", 4), ("( + 1 )", 3), ("( + )", 2), ("( + 1 2 ) )", 5), ("( + 1 2 ) 3", 5),
            ("( not )", 2), ("( not a b )", 3), ("( not", 2), ("( if 1 2 )", 4), ("( if 1 2 3 4 )", 5), ("( if", 2),
            ("( if 1 2 3", 5), ("( / 1 2 )", 1), ("( <= 1 2 )", 1), ("(+ 1 2 )", 0), ("( +1 2 )", 1), ("( + 1 2)", 3),
            ("( +  1 2 )", 2), ("( + 1  2 )", 3), ("( + 1 2  )", 4), ("(  + 1 2 )", 1), ("( + 1 2 ) ", 5),
            (" ( + 1 2 )", 0), ("( + 1 2 )\n", 4), ("( + 1\n2 )", 2), ("\n( + 1 2 )", 0), ("( +\n1 2 )", 1),
            ("( not not )", 2), ("( else 1 2 )", 1), ("( + ( 1 ) 2 )", 3), ("( + ( not 1 2 )", 5),
        ):
            self.assertEqual(first_wrong(text.split(" ")), at, repr(text))
            self.assert_refused(text, at)

    def test_numbers_and_names_that_are_none(self):
        for word in ("1000", "9999", "01", "00", "000", "010", "-1", "+1", "1.0", "1a", "a1", "A", "aB", "abcdefg",
                     "a_b", "a-b", "\u0661", "\u00e4", "1\n", "a\n", *WORDS, *SIGNS):
            self.assert_refused(word, 0)
            self.assert_refused(f"( + a {word} )", 3)
            self.assert_refused(f"( if {word} 1 2 )", 2)

    def test_words_left_out_twice_others_put_in_and_exchanged(self):
        refused = 0
        for k in range(300):
            source = source_of(k)
            words = show_expression(some_expression(source, ("a", "b"), 4)).split(" ")
            for changed in mutations(source, words, POOL):
                text = " ".join(changed)
                at = first_wrong(text.split(" "))
                if at is None:
                    self.assertEqual(show_expression(read_expression(text)), text)
                else:
                    refused += 1
                    self.assert_refused(text, at)
        self.assertGreater(refused, 1000)

    def test_each_beginning_ends_too_early(self):
        words = show_expression(deep_expression(12)).split(" ")
        for many in range(1, len(words)):
            self.assert_refused(" ".join(words[:many]), many)


class Deep(unittest.TestCase):
    def refused_at(self, text):
        with self.assertRaises(NoText) as caught:
            read_expression(text)
        return caught.exception.at

    def test_thirty_deep_is_read(self):
        for deep in range(31):
            made = deep_expression(deep)
            self.assertEqual(read_expression(show_expression(made)), made)

    def test_thirty_deep_on_each_side(self):
        made = op("+", deep_expression(29), op("*", deep_expression(28), deep_expression(28)))
        self.assertEqual(read_expression(show_expression(made)), made)
        self.assertGreater(show_expression(made).count("("), 80)

    def test_an_opening_bracket_that_makes_it_deeper_is_refused(self):
        for deep in (31, 32, 50):
            text = show_expression(deep_expression(deep))
            words = text.split(" ")
            self.assertEqual(self.refused_at(text), first_wrong(words))
            self.assertEqual(words[self.refused_at(text)], "(")
            self.assertEqual(words[:self.refused_at(text)].count("("), 30)

    def test_deeper_only_behind_what_was_closed(self):
        made = op("+", deep_expression(29), deep_expression(30))
        words = show_expression(made).split(" ")
        at = self.refused_at(" ".join(words))
        self.assertEqual(at, first_wrong(words))
        self.assertEqual(words[:at].count("(") - words[:at].count(")"), 30)
        self.assertGreater(words[:at].count("("), 50)

    def test_hundreds_of_brackets_never_closed(self):
        for head in ("( not", "( + 1", "( if 1 2", "( if", "( *"):
            step = len(head.split(" "))
            for many in (31, 32, 500, 1500):
                self.assertEqual(self.refused_at(" ".join([head] * many)), 30 * step)
            self.assertEqual(self.refused_at(" ".join([head] * 30)), 30 * step)
        self.assertEqual(self.refused_at(" ".join(["("] * 500)), 1)

    def test_deeper_ones_have_a_text(self):
        self.assertEqual(show_expression(deep_expression(60)).count("("), 60)


if __name__ == "__main__":
    unittest.main()
