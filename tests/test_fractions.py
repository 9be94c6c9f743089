"""Fractions: least numbers, sums and products, order, and how they are written and read."""

import unittest
from fractions import Fraction

from bentstretch.maps import fractions as told
from tests.helper import is_fraction, number, pair

SOME = [Fraction(above, below) for above in (-12, -7, -1, 0, 1, 3, 10, 9999) for below in (1, 2, 4, 9, 9998)]


class Numbers(unittest.TestCase):

    def test_least_numbers(self):
        for above, below, least in (
            (6, 4, (3, 2)), (-6, 4, (-3, 2)), (0, 5, (0, 1)), (3, 1, (3, 1)), (4, 4, (1, 1)),
            (6, -4, (-3, 2)), (-6, -4, (3, 2)), (0, -5, (0, 1)), (1, 7, (1, 7)),
        ):
            self.assertEqual(told.fraction(above, below), least)
            self.assertTrue(is_fraction(told.fraction(above, below)))

    def test_sums_and_products(self):
        for one in SOME:
            for other in SOME:
                self.same(told.plus(pair(one), pair(other)), one + other)
                self.same(told.minus(pair(one), pair(other)), one - other)
                self.same(told.times(pair(one), pair(other)), one * other)
                if other:
                    self.same(told.over(pair(one), pair(other)), one / other)

    def same(self, one, other):
        self.assertTrue(is_fraction(one), one)
        self.assertEqual(one, pair(other))

    def test_order(self):
        for one in SOME:
            for other in SOME:
                self.assertIs(told.less(pair(one), pair(other)), one < other)
                self.same(told.lesser(pair(one), pair(other)), min(one, other))
                self.same(told.greater(pair(one), pair(other)), max(one, other))

    def test_rising(self):
        for row in (SOME, SOME[::-1], SOME[7:20], SOME[:1], []):
            kept = [pair(one) for one in row]
            self.assertEqual(told.rising(tuple(kept)), [pair(one) for one in sorted(row)])

    def test_within(self):
        low, high = pair("-1/2"), pair("2/3")
        for word, lies in (("-1/2", True), ("2/3", True), ("0", True), ("-51/100", False), ("67/100", False)):
            self.assertIs(told.within(pair(word), low, high), lies, word)
        self.assertTrue(told.within(low, low, low))


class Words(unittest.TestCase):

    def test_read(self):
        for word, least in (
            ("0", (0, 1)), ("7", (7, 1)), ("-7", (-7, 1)), ("3/1", (3, 1)), ("0/5", (0, 1)),
            ("6/4", (3, 2)), ("-6/4", (-3, 2)), ("10/100", (1, 10)), ("1/2", (1, 2)),
        ):
            self.assertEqual(told.read_fraction(word), least, word)

    def test_not_read(self):
        for word in (
            "", "-", "/", "1/", "/2", "-/2", "-1/", "01", "-01", "1/02", "00", "0/00", "-0", "-0/3",
            "1/-2", "-1/-2", "1/0", "0/0", "--1", "+1", "1/+2", "1/2/3", "1//2", "1.5", "1e3", "1_0",
            " 1", "1 ", "1 /2", "x", "1/x", "\t1", "1\n", "0x1", "\u0661", "1/\u0662",
        ):
            self.assertIsNone(told.read_fraction(word), repr(word))

    def test_shown(self):
        for word in ("0", "7", "-7", "1/2", "-3/2", "1000000000000/7"):
            self.assertEqual(told.fraction_shown(pair(word)), word)

    def test_great_ones(self):
        for long in (59, 60, 61, 119, 120, 121, 5000):
            for figures in ("1" + "0" * (long - 1), "9" * long, "1" + "0" * (long - 2) + "7"):
                self.assertEqual(told.fraction_shown(told.read_fraction(figures)), figures)
                self.assertEqual(told.fraction_shown(told.read_fraction("-" + figures)), "-" + figures)
        self.assertEqual(told.read_fraction("9" * 70), (10 ** 70 - 1, 1))
        self.assertEqual(told.fraction_shown((-10 ** 60, 10 ** 60 + 1)), "-1" + "0" * 60 + "/1" + "0" * 59 + "1")

    def test_back_again(self):
        for one in SOME:
            self.assertEqual(told.read_fraction(told.fraction_shown(pair(one))), pair(one))
            self.assertEqual(number(told.read_fraction(str(one))), one)


if __name__ == "__main__":
    unittest.main()
