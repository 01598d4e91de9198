"""The refusals: fields, bases, raised and caught."""

import unittest

from chancetongue import errors

FIELDS = {
    "NoText": ("at",),
    "NoBook": ("word", "place"),
    "NoAsk": ("at",),
    "TooMany": ("most",),
    "NotSuch": (),
    "Broken": ("at",),
    "NoEngine": ("word",),
    "NoDatum": ("datum",),
    "Unsaid": (),
    "NoWays": (),
    "Nought": (),
    "NoRow": ("number",),
    "NoCondition": ("number",),
}
BESIDE = {"Nought": ZeroDivisionError, "NoRow": IndexError, "NoCondition": LookupError}
THINGS = (0, 7, -3, 10 ** 5000, "", "lost", ("body", 2), ((1, 2), ()), True, False, None, [1], {"a": 1})


def made_each_way(kind, fields, things):
    yield kind(*things)
    yield kind(**dict(zip(fields, things)))
    yield kind(**dict(reversed(list(zip(fields, things)))))


class Errors(unittest.TestCase):
    def test_there_are_thirteen_beside_the_base(self):
        self.assertEqual(len(FIELDS), 13)
        self.assertEqual(errors.ChanceError.__bases__, (ValueError,))

    def test_each_stands_right_under_its_base(self):
        for word in FIELDS:
            base = BESIDE.get(word, errors.ChanceError)
            self.assertEqual(getattr(errors, word).__bases__, (base,), word)

    def test_none_stands_under_another(self):
        for word in FIELDS:
            for other in FIELDS:
                if word != other:
                    self.assertFalse(issubclass(getattr(errors, word), getattr(errors, other)), (word, other))

    def test_the_three_are_no_chance_errors_and_no_value_errors(self):
        for word in BESIDE:
            self.assertFalse(issubclass(getattr(errors, word), ValueError), word)
        self.assertFalse(issubclass(errors.NoCondition, IndexError))
        self.assertFalse(issubclass(errors.NoRow, KeyError))
        for word in FIELDS:
            if word not in BESIDE:
                self.assertFalse(issubclass(getattr(errors, word), (LookupError, ArithmeticError)), word)

    def test_fields_keep_any_things_by_place_and_by_names(self):
        for word, fields in FIELDS.items():
            for first in THINGS:
                things = (first, "other")[:len(fields)]
                for made in made_each_way(getattr(errors, word), fields, things):
                    for field, thing in zip(fields, things):
                        self.assertIs(getattr(made, field), thing, (word, field))

    def test_both_fields_of_a_refused_book_are_any_things(self):
        for thing in THINGS:
            made = errors.NoBook(thing, (thing,))
            self.assertIs(made.word, thing)
            self.assertEqual(made.place, (thing,))

    def test_fields_are_the_objects_own(self):
        one, other = errors.NoText(1), errors.NoText(2)
        self.assertEqual((one.at, other.at), (1, 2))
        self.assertEqual(vars(errors.NoBook("lost", ("body", 2))), {"word": "lost", "place": ("body", 2)})
        self.assertEqual(vars(errors.NoWays()), {})

    def test_each_is_made_of_just_what_stands_in_brackets(self):
        for word, fields in FIELDS.items():
            if fields:
                with self.assertRaises(TypeError):
                    getattr(errors, word)()
                with self.assertRaises(TypeError):
                    getattr(errors, word)(*range(len(fields) + 1))

    def test_each_is_raised_and_caught_by_its_bases(self):
        for word, fields in FIELDS.items():
            kind = getattr(errors, word)
            for base in kind.__mro__[:-2]:
                with self.assertRaises(base) as caught:
                    raise kind(*range(len(fields)))
                self.assertEqual([getattr(caught.exception, field) for field in fields], list(range(len(fields))))

    def test_each_says_something_where_it_is_shown(self):
        self.assertEqual(str(errors.NoText(3)), "3")
        self.assertIn("lost", str(errors.NoBook("lost", ("body", 2))))


if __name__ == "__main__":
    unittest.main()
