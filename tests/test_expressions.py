"""Points 5 and 6: names, parts and values of expressions."""

import copy
import inspect
import string
import unittest

from chancetongue import expressions
from chancetongue.expressions import is_name, names_of, parts_of, value_of
from tests.making import SIGNS, WORDS, deep_expression, name, num, op, some_expression, source_of

EDGES = (0, 1, 2, 31, 32, 499, 500, 501, 998, 999)


def plain_value(expression, known):
    """A value by another road: both branches, Python's own truths."""
    kind, *rest = expression
    if kind == "num":
        return rest[0]
    if kind == "name":
        return known[rest[0]]
    if kind == "op":
        a, b = plain_value(rest[1], known), plain_value(rest[2], known)
        return {
            "+": a + b - 1000 * (a + b > 999), "-": a - b + 1000 * (a < b), "*": int(str(a * b)[-3:]),
            "<": int(a < b), "=": int(a == b), "&": int(bool(a) and bool(b)), "|": int(bool(a) or bool(b)),
        }[rest[0]]
    values = [plain_value(part, known) for part in rest]
    if kind == "not":
        return int(not values[0])
    return values[1] if values[0] else values[2]


class Names(unittest.TestCase):
    def test_one_to_six_small_letters(self):
        for letter in string.ascii_lowercase:
            for length in range(1, 7):
                self.assertIs(is_name(letter * length), True)
        for text in ("abcdef", "zyxwvu", "ends", "ifs", "seen", "nots", "time", "atat", "en", "i", "field", "unknow"):
            self.assertIs(is_name(text), True, text)

    def test_the_fourteen_words_are_none(self):
        self.assertEqual(len(set(WORDS)), 14)
        for word in WORDS:
            self.assertIs(is_name(word), False, word)

    def test_a_length_beyond_is_none(self):
        for text in ("", "abcdefg", "a" * 7, "a" * 4000):
            self.assertIs(is_name(text), False)

    def test_other_signs_are_none(self):
        others = [chr(k) for k in range(32, 127) if chr(k) not in string.ascii_lowercase] + ["\n", "\t", "\u00e4", "\u0430"]
        for sign in others:
            for text in (sign, "a" + sign, sign + "a", "a" + sign + "b"):
                self.assertIs(is_name(text), False, repr(text))


class Parts(unittest.TestCase):
    def test_each_form(self):
        a, b, c = name("a"), name("b"), num(3)
        self.assertEqual(parts_of(c), [c])
        self.assertEqual(parts_of(a), [a])
        self.assertEqual(parts_of(op("-", a, b)), [op("-", a, b), a, b])
        self.assertEqual(parts_of(("not", a)), [("not", a), a])
        self.assertEqual(parts_of(("if", c, a, b)), [("if", c, a, b), c, a, b])

    def test_each_with_all_in_it_ahead_of_the_next(self):
        left, right = op("+", name("a"), name("b")), ("not", name("c"))
        whole = ("if", left, right, num(0))
        self.assertEqual(parts_of(whole), [whole, left, name("a"), name("b"), right, name("c"), num(0)])
        self.assertEqual(parts_of(op("+", num(1), num(1))), [op("+", num(1), num(1)), num(1), num(1)])

    def test_as_many_as_there_are(self):
        for k in range(200):
            made = some_expression(source_of(k), ("a", "b"), 5)
            told = parts_of(made)
            self.assertIs(type(told), list)
            self.assertEqual(len(told), str(made).count("("))
            self.assertEqual(told, list(self.by_recursion(made)))

    def by_recursion(self, expression):
        yield expression
        for part in expression[1:]:
            if isinstance(part, tuple):
                yield from self.by_recursion(part)

    def test_deep_ones(self):
        self.assertEqual(parts_of(deep_expression(30))[0], deep_expression(30))
        self.assertIn(name("x"), parts_of(deep_expression(60)))

    def test_the_list_is_a_new_one(self):
        made = op("+", name("a"), num(1))
        told = parts_of(made)
        told.clear()
        self.assertEqual(len(parts_of(made)), 3)


class Values(unittest.TestCase):
    def test_signs_at_the_edges(self):
        for a in EDGES:
            for b in EDGES:
                known = {"a": a, "b": b}
                for sign in SIGNS:
                    for made in (op(sign, name("a"), name("b")), op(sign, num(a), num(b))):
                        self.assertEqual(value_of(made, known), plain_value(made, known), (sign, a, b))

    def test_the_rest_of_a_thousand_from_nought_on(self):
        for made, value in (
            (op("+", num(999), num(1)), 0), (op("+", num(999), num(999)), 998), (op("-", num(0), num(1)), 999),
            (op("-", num(0), num(999)), 1), (op("-", num(999), num(999)), 0), (op("*", num(999), num(999)), 1),
            (op("*", num(500), num(2)), 0), (op("*", num(32), num(32)), 24),
        ):
            self.assertEqual(value_of(made, {}), value)

    def test_truths_are_one_and_nought(self):
        for made, value in (
            (op("<", num(1), num(2)), 1), (op("<", num(2), num(2)), 0), (op("<", num(3), num(2)), 0),
            (op("=", num(2), num(2)), 1), (op("=", num(2), num(3)), 0),
            (op("&", num(2), num(3)), 1), (op("&", num(2), num(0)), 0), (op("&", num(0), num(3)), 0),
            (op("&", num(0), num(0)), 0), (op("|", num(2), num(3)), 1), (op("|", num(2), num(0)), 1),
            (op("|", num(0), num(3)), 1), (op("|", num(0), num(0)), 0),
            (("not", num(0)), 1), (("not", num(1)), 0), (("not", num(999)), 0),
        ):
            self.assertEqual(value_of(made, {}), value)
            self.assertIs(type(value_of(made, {})), int)

    def test_if(self):
        for c in EDGES:
            self.assertEqual(value_of(("if", num(c), num(7), num(8)), {}), 8 if c == 0 else 7)
        self.assertEqual(value_of(("if", name("c"), name("a"), name("b")), {"c": 2, "a": 0, "b": 999}), 0)

    def test_numbers_and_names(self):
        for n in EDGES:
            self.assertEqual(value_of(num(n), {}), n)
            self.assertEqual(value_of(name("a"), {"a": n, "b": 5}), n)

    def test_many(self):
        for k in range(300):
            source = source_of(k)
            made = some_expression(source, ("a", "b", "cc"), 6)
            known = {x: source.choice(EDGES) for x in ("a", "b", "cc")}
            self.assertEqual(value_of(made, known), plain_value(made, known))

    def test_deep_ones(self):
        for deep in (30, 60):
            made = deep_expression(deep)
            self.assertEqual(value_of(made, {"x": 5}), plain_value(made, {"x": 5}))

    def test_the_dict_stays_as_it_is(self):
        made = some_expression(source_of(3), ("a", "b"), 6)
        known = {"b": 3, "a": 4, "zz": 5}
        ahead = copy.deepcopy(known)
        first = value_of(made, known)
        self.assertEqual((known, list(known)), (ahead, list(ahead)))
        value_of(made, {"a": 0, "b": 0})
        self.assertEqual(value_of(made, known), first)


class NamesIn(unittest.TestCase):
    def test_each_once_as_they_first_stand(self):
        self.assertEqual(names_of(num(5)), ())
        self.assertEqual(names_of(name("b")), ("b",))
        self.assertEqual(names_of(op("+", name("b"), name("a"))), ("b", "a"))
        self.assertEqual(names_of(op("+", name("b"), name("b"))), ("b",))
        self.assertEqual(names_of(("if", name("z"), ("not", name("a")), op("*", name("z"), name("m")))), ("z", "a", "m"))
        self.assertEqual(names_of(op("<", op("<", name("c"), name("a")), op("<", name("b"), name("c")))), ("c", "a", "b"))
        self.assertIs(type(names_of(num(1))), tuple)

    def test_many(self):
        for k in range(200):
            made = some_expression(source_of(k), ("a", "b", "cc", "d"), 5)
            said = [part[1] for part in parts_of(made) if part[0] == "name"]
            self.assertEqual(names_of(made), tuple(dict.fromkeys(said)))


class Interface(unittest.TestCase):
    def test_arguments(self):
        for word, told in (
            ("is_name", "(text)"), ("parts_of", "(expression)"), ("names_of", "(expression)"),
            ("value_of", "(expression, known)"),
        ):
            self.assertEqual(str(inspect.signature(getattr(expressions, word))), told)
        self.assertEqual(value_of(known={"a": 3}, expression=name("a")), 3)


if __name__ == "__main__":
    unittest.main()
