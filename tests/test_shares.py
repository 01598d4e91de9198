"""Point 4: shares."""

import inspect
import unittest
from fractions import Fraction
from math import gcd

from chancetongue import shares
from chancetongue.errors import NoText, Nought
from chancetongue.shares import (
    NONE, ONE, is_less, product_of, quotient_of, read_share, share_of, share_text, sum_of,
)
from tests.making import source_of

EDGES = [Fraction(a, b) for a in range(-7, 8) for b in range(1, 7)]


def pair(fraction):
    return (fraction.numerator, fraction.denominator)


def long_number(source, figures):
    return source.randrange(10 ** (figures - 1), 10 ** figures)


class Made(unittest.TestCase):
    def assert_share(self, made, upper, lower):
        self.assertEqual(made, pair(Fraction(upper, lower)))
        self.assertIs(type(made), tuple)
        self.assertGreaterEqual(made[1], 1)
        self.assertEqual(gcd(*made), 1)

    def test_constants(self):
        self.assertEqual((ONE, NONE), ((1, 1), (0, 1)))

    def test_small_ones_of_either_sign(self):
        for upper in range(-30, 31):
            for lower in range(-30, 31):
                if lower != 0:
                    self.assert_share(share_of(upper, lower=lower), upper, lower)

    def test_whole_ones_need_no_lower(self):
        for upper in (-999, -1, 0, 1, 999, 10 ** 3999):
            self.assertEqual(share_of(upper), (upper, 1))

    def test_nought_is_one_share(self):
        for lower in (1, -1, 5, -5, 10 ** 3999, -10 ** 3999):
            self.assertEqual(share_of(0, lower=lower), NONE)

    def test_lower_nought_is_refused(self):
        for upper in (0, 1, -1, 10 ** 3999):
            with self.assertRaises(Nought):
                share_of(upper, lower=0)

    def test_long_ones(self):
        source = source_of(4)
        common = long_number(source, 1500)
        upper, lower = long_number(source, 2500) * common, long_number(source, 2500) * common
        for sign in (1, -1):
            self.assert_share(share_of(sign * upper, lower=lower), sign * upper, lower)
            self.assert_share(share_of(sign * upper, lower=-lower), sign * upper, -lower)
        most = 10 ** 4000 - 1
        self.assert_share(share_of(most, lower=most - 1), most, most - 1)
        self.assertEqual(share_of(most, lower=most), ONE)
        self.assertEqual(share_of(most, lower=-most), (-1, 1))

    def test_neighbours_of_the_slowest_kind(self):
        one, other = 1, 1
        while other < 10 ** 3999:
            one, other = other, one + other
        self.assertEqual(share_of(one, lower=other), (one, other))

    def test_arguments(self):
        self.assertEqual(str(inspect.signature(share_of)), "(upper, *, lower=1)")
        self.assertEqual(share_of(upper=4, lower=6), (2, 3))
        with self.assertRaises(TypeError):
            share_of(4, 6)
        for word in ("sum_of", "product_of", "quotient_of", "is_less"):
            self.assertEqual(str(inspect.signature(getattr(shares, word))), "(one, other)")
        self.assertEqual(quotient_of(other=(1, 2), one=(1, 3)), (2, 3))
        self.assertTrue(is_less(other=(1, 2), one=(1, 3)))
        self.assertEqual(share_text(one=(1, 2)), "1/2")
        self.assertEqual(read_share(text="1/2"), (1, 2))


class Reckoned(unittest.TestCase):
    def assert_all(self, one, other):
        a, b = pair(one), pair(other)
        self.assertEqual(sum_of(a, b), pair(one + other))
        self.assertEqual(product_of(a, b), pair(one * other))
        self.assertIs(is_less(a, b), one < other)
        if other == 0:
            with self.assertRaises(Nought):
                quotient_of(a, b)
        else:
            self.assertEqual(quotient_of(a, b), pair(one / other))

    def test_small_ones(self):
        for one in EDGES:
            for other in EDGES:
                self.assert_all(one, other)

    def test_quotient_by_nought_of_nought_too(self):
        for one in (NONE, ONE, (-2, 3)):
            with self.assertRaises(Nought):
                quotient_of(one, NONE)

    def test_long_ones(self):
        source = source_of(5)
        made = [Fraction(sign * long_number(source, 4000), long_number(source, 4000)) for sign in (1, -1)]
        made.append(Fraction(0))
        for one in made:
            for other in made:
                self.assert_all(one, other)

    def test_a_sum_comes_back_to_lowest_terms(self):
        self.assertEqual(sum_of((1, 6), (1, 3)), (1, 2))
        self.assertEqual(sum_of((1, 2), (-1, 2)), NONE)
        self.assertEqual(sum_of((1, 2), (1, 2)), ONE)

    def test_like_ones_are_not_less(self):
        for one in ((0, 1), (1, 3), (-1, 3), (10 ** 3999, 10 ** 3999 - 1)):
            self.assertIs(is_less(one, one), False)

    def test_a_hair_apart(self):
        n = 10 ** 3999
        self.assertIs(is_less((n - 1, n), (n, n + 1)), True)
        self.assertIs(is_less((n, n + 1), (n - 1, n)), False)
        self.assertIs(is_less((-n, n + 1), (1 - n, n)), True)
        self.assertIs(is_less((0, 1), (1, n)), True)
        self.assertIs(is_less((-1, n), (0, 1)), True)


class Texts(unittest.TestCase):
    def test_shown(self):
        for share, text in (
            ((0, 1), "0"), ((1, 1), "1"), ((-1, 1), "-1"), ((10, 1), "10"), ((1, 2), "1/2"),
            ((-1, 2), "-1/2"), ((999, 1000), "999/1000"), ((-100, 3), "-100/3"),
        ):
            self.assertEqual(share_text(share), text)
            self.assertEqual(read_share(text), share)

    def test_small_ones_are_read_again(self):
        for one in EDGES:
            self.assertEqual(share_text(pair(one)), str(one))
            self.assertEqual(read_share(str(one)), pair(one))

    def test_long_ones_are_shown(self):
        above, below = "1" + "0" * 3998 + "7", "9" * 4000
        share = share_of(int(above), lower=int(below))
        self.assertEqual(share, (int(above), int(below)))
        self.assertEqual(share_text(share), above + "/" + below)
        self.assertEqual(share_text((-share[0], share[1])), "-" + above + "/" + below)
        for figures in (59, 60, 61, 119, 120, 121, 181, 4000):
            for n in (10 ** (figures - 1), 10 ** figures - 1, 10 ** (figures - 1) + 5):
                self.assertEqual(share_text((n, 1)), str(n))

    def test_somewhat_beyond_the_bound_is_no_error(self):
        self.assertEqual(share_text((10 ** 5000, 1)), "1" + "0" * 5000)
        self.assertEqual(share_text((1, 10 ** 5000)), "1/1" + "0" * 5000)

    def test_four_hundred_figures_are_read(self):
        above, below = "9" * 400, "1" + "0" * 399
        for text in (above, "-" + above, above + "/" + below, "-" + above + "/" + below, "1/" + below):
            self.assertEqual(share_text(read_share(text)), text)
        self.assertEqual(read_share("-" + above + "/" + below), (-int(above), int(below)))

    def assert_refused(self, text):
        with self.assertRaises(NoText, msg=repr(text)) as caught:
            read_share(text)
        self.assertEqual(caught.exception.at, 0)

    def test_refused(self):
        for text in (
            "", "2/4", "3/6", "-2/4", "6/3", "0/2", "0/1", "1/1", "2/1", "-2/1", "1/0", "0/0", "-1/0", "01", "00",
            "-01", "01/2", "1/02", "1/2/3", "1//2", "/", "/2", "1/", "-", "-/2", "--1", "1/-2", "-1/-2", "-0",
            "-0/2", "+1", "+1/2", "1/+2", " 1", "1 ", "1 /2", "1/ 2", "- 1", " ", "\n", "1\n", "\n1", "1/2\n",
            "1\n/2", "a", "1a", "1/b", "1.5", "1_0", "1,0", "0x1", "1e3", "1/2-", "\u0661", "\u00b2", "1/\u0662",
        ):
            self.assert_refused(text)

    def test_too_many_figures_are_refused(self):
        for text in ("1" * 401, "-" + "1" * 401, "1/" + "1" * 401, "1" * 401 + "/2", "-1/" + "1" * 401, "1" * 4000):
            self.assert_refused(text)
        self.assert_refused("0" * 400)
        self.assert_refused("1" * 5000)

    def test_all_short_texts(self):
        right = {str(Fraction(a, b)) for a in range(-99, 100) for b in range(1, 100)}
        right.update([str(a) for a in range(-999, 10000)])
        signs = "-/0124 "
        texts = [""]
        for length in range(4):
            texts = [text + sign for text in texts for sign in signs]
            for text in texts:
                if text in right:
                    self.assertEqual(share_text(read_share(text)), text)
                else:
                    self.assert_refused(text)

    def test_asked_again(self):
        for k in range(3):
            self.assertEqual(read_share("-3/7"), (-3, 7))
            with self.assertRaises(NoText):
                read_share("2/4")


if __name__ == "__main__":
    unittest.main()
