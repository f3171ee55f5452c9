"""Points 7 to 9: shares."""

import operator
from fractions import Fraction
from math import gcd

from helper import Case
from renamedhorn.errors import BadShare, ZeroBelow
from renamedhorn.shares import Share

LARGE = 10 ** 60 - 1
PAIRS = [(0, 1), (1, 1), (-1, 1), (1, 2), (-1, 2), (2, 3), (-7, 3), (7, 3), (22, 7), (5, 1), (-12, 1)]
LARGE_PAIRS = [(LARGE, LARGE - 1), (-LARGE, 7), (1, LARGE), (LARGE, 1)]
INTEGERS = [0, 1, -1, 2, -3, 12, LARGE, -LARGE]


def all_pairs():
    """Shares and their fractions."""
    return [(Share(top, bottom), Fraction(top, bottom)) for top, bottom in PAIRS + LARGE_PAIRS]


class ShareCase(Case):
    def same(self, share, value):
        """Assert that a share has this exact value, in lowest terms."""
        self.assertIs(type(share), Share)
        self.assertEqual((share.top, share.bottom), (value.numerator, value.denominator))


class MakingTest(ShareCase):
    def test_lowest_terms_for_every_mix_of_signs(self):
        for top in range(-12, 13):
            for bottom in list(range(-12, 0)) + list(range(1, 13)):
                share = Share(top, bottom)
                self.assertGreater(share.bottom, 0)
                self.assertEqual(gcd(share.top, share.bottom), 1)
                self.same(share, Fraction(top, bottom))

    def test_zero_is_over_one(self):
        for bottom in (1, -1, 5, -5, LARGE):
            share = Share(0, bottom)
            self.assertEqual((share.top, share.bottom), (0, 1))

    def test_bottom_is_one_if_not_passed(self):
        self.same(Share(5), Fraction(5))
        self.same(Share(top=3, bottom=-6), Fraction(-1, 2))

    def test_sixty_digits(self):
        self.same(Share(LARGE, -LARGE), Fraction(-1))
        self.same(Share(-LARGE, LARGE - 1), Fraction(-LARGE, LARGE - 1))

    def test_zero_below(self):
        for top in (0, 1, -1, LARGE):
            self.refused(ZeroBelow, Share, top, 0)


class ArithmeticTest(ShareCase):
    def test_sums_differences_and_products(self):
        for sign in (operator.add, operator.sub, operator.mul):
            for one, first in all_pairs():
                for other, second in all_pairs():
                    self.same(sign(one, other), sign(first, second))
                for whole in INTEGERS:
                    self.same(sign(one, whole), sign(first, whole))
                    self.same(sign(whole, one), sign(whole, first))
                self.same(sign(one, one), sign(first, first))
                self.same(one, first)

    def test_one_sign(self):
        for share, value in all_pairs():
            self.same(-share, -value)
            self.same(abs(share), abs(value))
            self.assertIs(bool(share), value != 0)
            self.same(share, value)

    def test_in_place_forms_give_a_new_share(self):
        for other in (Share(1, 3), 2, Share(-5, 2), 0):
            value = Fraction(str(other))
            for change, sign in ((operator.iadd, operator.add), (operator.isub, operator.sub),
                                 (operator.imul, operator.mul)):
                share = Share(3, 4)
                old = share
                share = change(share, other)
                self.same(share, sign(Fraction(3, 4), value))
                self.same(old, Fraction(3, 4))
        share = old = Share(1, 2)
        share += share
        share -= 3
        share *= share
        self.same(share, Fraction(4))
        self.same(old, Fraction(1, 2))

    def test_in_place_with_an_integer_before(self):
        total = 1
        total += Share(1, 2)
        self.same(total, Fraction(3, 2))
        total = 1
        total -= Share(1, 2)
        self.same(total, Fraction(1, 2))

    def test_other_values_are_no_operands(self):
        for value in ("1", None, (1, 2), [1], True):
            for sign in (operator.add, operator.sub, operator.mul, operator.floordiv):
                self.assertRaises(TypeError, sign, Share(1, 2), value)
                self.assertRaises(TypeError, sign, value, Share(1, 2))


class DivisionTest(ShareCase):
    def test_floor(self):
        for one, first in all_pairs():
            for other, second in all_pairs():
                if second:
                    result = one // other
                    self.assertIs(type(result), int)
                    self.assertEqual(result, first // second)
            for whole in INTEGERS:
                if whole:
                    self.assertEqual(one // whole, first // whole)
                if first:
                    self.assertIs(type(whole // one), int)
                    self.assertEqual(whole // one, whole // first)

    def test_floor_is_not_above_the_quotient(self):
        self.assertEqual(Share(-7, 2) // Share(1), -4)
        self.assertEqual(Share(7, 2) // -1, -4)
        self.assertEqual(-7 // Share(2), -4)
        self.assertEqual(Share(-6, 2) // 1, -3)
        self.assertEqual(3 // Share(3, 4), 4)

    def test_over(self):
        for one, first in all_pairs():
            for other, second in all_pairs():
                if second:
                    self.same(one.over(other), first / second)
            for whole in INTEGERS:
                if whole:
                    self.same(one.over(whole), first / whole)
            self.same(one, first)

    def test_zero_below(self):
        for share, _ in all_pairs():
            for zero in (0, Share(0), Share(0, -4)):
                self.refused(ZeroBelow, operator.floordiv, share, zero)
                self.refused(ZeroBelow, share.over, zero)
        for whole in INTEGERS:
            self.refused(ZeroBelow, operator.floordiv, whole, Share(0))


class ComparisonTest(ShareCase):
    def test_shares_with_shares(self):
        for one, first in all_pairs():
            for other, second in all_pairs():
                self.ordered((one, other), first, second)

    def test_shares_with_integers(self):
        for share, value in all_pairs():
            for whole in [*INTEGERS, 3, -4]:
                self.ordered((share, whole), value, whole)
                self.ordered((whole, share), whole, value)

    def test_one_share_with_itself(self):
        for share, value in all_pairs():
            self.ordered((share, share), value, value)

    def test_nothing_else_is_equal(self):
        for value in ("1", "1/2", (1, 2), [1, 2], (1, 1), None, {}, True, 1.0, b"1"):
            for share in (Share(1), Share(1, 2), Share(0)):
                self.assertIs(share == value, False)
                self.assertIs(share != value, True)
                self.assertIs(value == share, False)

    def test_other_values_are_not_compared(self):
        for sign in (operator.lt, operator.le, operator.gt, operator.ge):
            for value in ("1", None, (1, 2), True):
                self.assertRaises(TypeError, sign, Share(1), value)
                self.assertRaises(TypeError, sign, value, Share(1))


class TextTest(ShareCase):
    def test_strings(self):
        self.assertEqual(str(Share(-3, 4)), "-3/4")
        self.assertEqual(str(Share(3, -4)), "-3/4")
        self.assertEqual(str(Share(6, 4)), "3/2")
        self.assertEqual(str(Share(0, 9)), "0")
        self.assertEqual(str(Share(8, -4)), "-2")
        self.assertEqual(f"{Share(1, 2)}", "1/2")

    def test_reading_what_is_written(self):
        for share, value in all_pairs():
            self.assertEqual(str(share), str(value))
            self.same(Share.read(str(share)), value)

    def test_sixty_digits_are_read(self):
        top = "-" + "9" * 60
        self.same(Share.read(top), Fraction(-LARGE))
        self.same(Share.read(top + "/1" + "0" * 59), Fraction(-LARGE, 10 ** 59))
        self.same(Share.read("1/" + "9" * 60), Fraction(1, LARGE))

    def test_sixty_one_digits_are_not_read(self):
        for text in ("1" + "0" * 60, "-1" + "0" * 60, "1/1" + "0" * 60, "1" + "0" * 60 + "/7", "1" * 5000,
                     "1/" + "3" * 5000, "0" * 61):
            self.refused(BadShare, Share.read, text, text=text)

    def test_texts_of_no_share(self):
        texts = [
            "", "/", "1/", "/2", "-", "-/2", "1/1", "0/1", "-3/1", "1/0", "0/0", "1/-2", "-1/-2", "2/4", "-2/4",
            "0/3", "01", "-01", "01/2", "1/02", "00", "-0", "-0/1", "-0/2", "+1", "+1/2", "1/+2", " 1", "1 ",
            "1 /2", "1/ 2", "1 / 2", "- 1", "\n", "1\n", "1/2\n", "\n1", "1/2/3", "1//2", "--1", "1-", "1-2",
            "1_0", "1,000", "1.0", "1.5", "0.5", "1e3", "a", "a/b", "one", "1/b", "0x1", "(1)", "1;2", "1/2a",
        ]
        for text in texts:
            with self.subTest(text=text):
                self.refused(BadShare, Share.read, text, text=text)

    def test_digits_of_other_scripts_are_no_digits(self):
        for text in ("\u0661", "\u00b2", "1/\u0663"):
            self.refused(BadShare, Share.read, text, text=text)
