"""[5]: the value of a map at a point, and the map with as few knots as it needs."""

import unittest
from fractions import Fraction

from bentstretch.errors import NoMap, NoPoint, StretchError
from bentstretch.maps.values import least_knots, value_of
from tests.helper import are_rows, grid, height, is_fraction, lines_of, made, number, pair, some_maps

TENT = made("0 0", "1/2 1", "1 0")
BENT = made("-3/2 2", "-1/3 -1", "0 -1", "5/7 1/2", "2 -3/2")


class Values(unittest.TestCase):

    def test_at_knots_and_amid(self):
        for knots, point, worth in (
            (TENT, "0", "0"), (TENT, "1/2", "1"), (TENT, "1", "0"), (TENT, "1/4", "1/2"), (TENT, "3/4", "1/2"),
            (TENT, "1/3", "2/3"), (TENT, "2/3", "2/3"), (TENT, "999999999999/1000000000000", "1/500000000000"),
            (BENT, "-3/2", "2"), (BENT, "2", "-3/2"), (BENT, "-1/3", "-1"), (BENT, "-1/6", "-1"), (BENT, "0", "-1"),
            (BENT, "5/7", "1/2"), (BENT, "5/14", "-1/4"), (BENT, "-11/12", "1/2"),
            (made("0 1", "1 0"), "2/5", "3/5"), (made("3 4", "5 4"), "7/2", "4"),
        ):
            self.assertEqual(value_of(knots, pair(point)), pair(worth), (knots, point))

    def test_against_values_taken_one_by_one(self):
        for knots in some_maps(5, 40, 8):
            for at in grid(knots, 17):
                told = value_of(knots, pair(at))
                self.assertTrue(is_fraction(told))
                self.assertEqual(number(told), height(knots, at))

    def test_outside(self):
        for knots, point in (
            (TENT, "-1/1000000000000"), (TENT, "1000000000001/1000000000000"), (TENT, "-5"), (TENT, "999999999999"),
            (BENT, "-1501/1000"), (BENT, "2001/1000"), (BENT, "-100"), (BENT, "100"), (made("3 4", "5 4"), "0"),
        ):
            with self.assertRaises(NoPoint):
                value_of(knots, pair(point))

    def test_refusal_is_taken_as_one(self):
        with self.assertRaises(StretchError):
            value_of(TENT, pair(2))
        with self.assertRaises(NoPoint):
            try:
                value_of(TENT, pair(2))
            except NoMap:
                self.fail("NoMap")

    def test_values_go_on(self):
        knots = made("0 1/9973", "4999/9973 9999/10000", "1 1/7919")
        point, at = pair("123456789012/987654321098"), Fraction(123456789012, 987654321098)
        for turn in range(40):
            point, at = value_of(knots, point), height(knots, at)
            self.assertEqual(number(point), at)
            self.assertTrue(is_fraction(point))


class Least(unittest.TestCase):

    def test_told(self):
        for knots, least in (
            (TENT, TENT), (BENT, BENT), (made("0 0", "1 1"), made("0 0", "1 1")), (made("0 1", "1 0"), made("0 1", "1 0")),
            (made("0 0", "1/2 1/2", "1 1"), made("0 0", "1 1")),
            (made("0 0", "1/4 1/2", "1/2 1", "3/4 1/2", "7/8 1/4", "1 0"), TENT),
            (made("0 0", "1/7 1/7", "1/5 1/5", "1/3 1/3", "1/2 1/2", "1 1"), made("0 0", "1 1")),
            (made("0 1/3", "1/9 1/3", "1/2 1/3", "1 1/3"), made("0 1/3", "1 1/3")),
            (made("0 0", "1/4 0", "1/2 0", "3/4 1", "1 1"), made("0 0", "1/2 0", "3/4 1", "1 1")),
            (made("0 0", "1/3 1/3", "1/2 1/2", "1 0"), made("0 0", "1/2 1/2", "1 0")),
            (made("0 1", "1/2 0", "3/4 1/2", "1 1"), made("0 1", "1/2 0", "1 1")),
        ):
            self.assertEqual(least_knots(knots), least)
            self.assertEqual(least_knots(least), least)

    def test_same_map_no_knot_straight(self):
        for knots in some_maps(6, 60, 8, 2):
            least = least_knots(knots)
            self.assertTrue(are_rows(least, 2) and type(least) is tuple)
            self.assertLessEqual(set(least), set(knots))
            for at in grid(knots, 12):
                self.assertEqual(height(least, at), height(knots, at))
            lines = lines_of(least)
            for one, other in zip(lines, lines[1:]):
                self.assertNotEqual(one[2:], other[2:])
            self.assertEqual(least_knots(least), least)

    def test_what_is_handed_in_stays(self):
        knots = made("0 0", "1/2 1/2", "1 1")
        least_knots(knots)
        self.assertEqual(knots, made("0 0", "1/2 1/2", "1 1"))


if __name__ == "__main__":
    unittest.main()
