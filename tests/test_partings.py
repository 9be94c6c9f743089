"""[19] and [20]: partings, whether they fit, the least fitting one, and their tables."""

import unittest
from fractions import Fraction
from itertools import combinations

from bentstretch.errors import NoLoop, NoMap, NoParting, NoPoint
from bentstretch.maps.turns import turned
from bentstretch.parts.partings import fits, least_parting, table_of
from tests.helper import fewest_lines, height, is_row, is_whole, made, number, pair, points, some_maps, zigzag

TENT = made("0 0", "1/2 1", "1 0")
STAYS = made("0 0", "1 1")
ABOUT = made("0 1", "1 0")
LEVEL = made("0 1/3", "1 1/3")
THREE = made("0 1", "1 2", "2 0")
STRAIGHT = made("0 0", "1/4 1/2", "1/2 1", "1 0")
STEPS = made("0 4", "1 1", "2 1", "3 3", "4 0")


def fits_seen(knots, parting):
    """Fitting as the document has it, of Fractions."""
    ends = (number(knots[0][0]), number(knots[-1][0]))
    if len(parting) < 2 or (parting[0], parting[-1]) != ends:
        return False
    if any(one >= other for one, other in zip(parting, parting[1:])):
        return False
    bends = [low for low, high, slope, nought in fewest_lines(knots)[1:]]
    return all(bend in parting for bend in bends) and all(height(knots, at) in parting for at in parting)


def all_from(knots, most):
    """All points that the ends and bends come to, or None where these are more than most."""
    lines = fewest_lines(knots)
    told = {line[0] for line in lines} | {lines[-1][1]}
    while len(told) <= most:
        more = told | {height(knots, at) for at in told}
        if more == told:
            return tuple(pair(at) for at in sorted(told))
        told = more
    return None


class Fits(unittest.TestCase):

    def test_told(self):
        for knots, parting, told in (
            (TENT, "0 1/2 1", True), (TENT, "0 1/4 1/2 1", True), (TENT, "0 1/4 1/2 3/4 1", True), (TENT, "0 1/2 2/3 1", True),
            (TENT, "0 1/3 1/2 2/3 1", True), (TENT, "0 2/5 1/2 4/5 1", True), (STAYS, "0 1", True), (STAYS, "0 3/7 1", True),
            (STRAIGHT, "0 1/2 1", True), (STRAIGHT, "0 1/4 1/2 1", True), (ABOUT, "0 1", True), (ABOUT, "0 1/3 2/3 1", True),
            (LEVEL, "0 1/3 1", True), (THREE, "0 1 2", True), (STEPS, "0 1 2 3 4", True),
            # A value that is no point of it.
            (TENT, "0 1/3 1/2 1", False), (ABOUT, "0 1/3 1", False), (LEVEL, "0 1", False), (TENT, "0 2/5 1/2 1", False),
            # A knot amid a part.
            (TENT, "0 1", False), (TENT, "0 2/3 1", False), (STRAIGHT, "0 1/4 1", False), (STEPS, "0 1 3 4", False),
            # Not from the first point of the stretch to the last one.
            (TENT, "0 1/2", False), (TENT, "1/2 1", False), (STAYS, "0 1 2", False), (STAYS, "-1 0 1", False),
            (STAYS, "0 2", False), (STAYS, "1/3 2/3", False), (THREE, "0 1 2 3", False),
            # Not rising.
            (TENT, "0 1/2 1/2 1", False), (TENT, "0 1/2 1/4 1", False), (TENT, "1 1/2 0", False), (STAYS, "0 0 1", False),
            (STAYS, "0 1 1", False), (STAYS, "0 2 1", False), (STAYS, "0 -1 1", False),
            # Fewer than two points.
            (TENT, "", False), (TENT, "0", False), (TENT, "1", False), (STAYS, "1/2", False),
        ):
            self.assertIs(fits(knots, points(*parting.split())), told, (knots, parting))

    def test_against_values_taken_one_by_one(self):
        some = {True: 0, False: 0}
        for knots in some_maps(19, 40, 5, 2) + [TENT, STAYS, ABOUT, LEVEL, THREE, STEPS]:
            low, high = number(knots[0][0]), number(knots[-1][0])
            amid = sorted({low + (high - low) * step / 4 for step in range(1, 4)} | {number(knot[0]) for knot in knots[1:-1]})
            for many in range(len(amid) + 1):
                for chosen in combinations(amid, many):
                    parting = (low,) + chosen + (high,)
                    told = fits(knots, tuple(pair(at) for at in parting))
                    self.assertIs(told, fits_seen(knots, parting), (knots, parting))
                    some[told] += 1
        self.assertGreater(min(some.values()), 40)


class LeastParting(unittest.TestCase):

    def test_told(self):
        for knots, parting in (
            (TENT, "0 1/2 1"), (STRAIGHT, "0 1/2 1"), (STAYS, "0 1"), (ABOUT, "0 1"), (LEVEL, "0 1/3 1"), (THREE, "0 1 2"),
            (STEPS, "0 1 2 3 4"), (made("0 0", "1/2 3/4", "1 0"), None), (made("0 1/2", "1 1/4"), None),
            (made("0 0", "1/3 1", "1 1/2"), None), (made("0 1/2", "1/4 3/4", "1/2 1", "1 0"), "0 1/2 1"),
            (made("0 0", "2/5 4/5", "1 0"), None), (made("0 0", "1/2 4/5", "4/5 1/2", "1 0"), "0 1/2 4/5 1"),
            (made("-3 -1", "-2 -3", "-1 -2"), "-3 -2 -1"), (made("0 1", "2 3", "5 0"), "0 1 2 3 5"),
        ):
            told = least_parting(knots, 13)
            self.assertEqual(told, None if parting is None else points(*parting.split()), knots)

    def test_just_so_many_and_one_fewer(self):
        for knots, many in (
            (TENT, 3), (STAYS, 2), (ABOUT, 2), (LEVEL, 3), (STEPS, 5), (zigzag(8), 8), (made("0 1", "12 12"), None),
            (made("0 1", "11 12", "12 0"), 13), (made("0 1", "12 13", "13 0"), 14),
        ):
            if many is None:
                self.assertIsNone(least_parting(knots, 13))
                continue
            told = least_parting(knots, many)
            self.assertEqual(len(told), many, knots)
            self.assertEqual(least_parting(knots, many + 1), told)
            if many > 2:
                self.assertIsNone(least_parting(knots, many - 1))
            self.assertEqual(least_parting(knots, 13), told if many <= 13 else None)

    def test_against_all_that_comes_of_the_knots(self):
        some = {}
        for knots in some_maps(191, 150, 6, 6) + some_maps(192, 60, 3, 3):
            for most in (2, 3, 4, 7, 13):
                told = least_parting(knots, most)
                self.assertEqual(told, all_from(knots, most), (knots, most))
                if told is not None:
                    self.assertTrue(is_row(told))
                    self.assertIs(fits(knots, told), True)
                many = 0 if told is None else len(told)
                some[many] = some.get(many, 0) + 1
        self.assertGreater(len(some), 7)

    def test_told_maps_go_on(self):
        self.assertEqual(least_parting(turned(TENT, 3), 13), tuple(pair(Fraction(step, 8)) for step in range(9)))
        self.assertIsNone(least_parting(turned(TENT, 5), 13))
        self.assertEqual(len(least_parting(turned(TENT, 5), 33)), 33)


class Tables(unittest.TestCase):

    def test_told(self):
        for knots, parting, rows in (
            (TENT, "0 1/2 1", "11 11"), (TENT, "0 1/4 1/2 3/4 1", "1100 0011 0011 1100"), (STAYS, "0 1", "1"),
            (STAYS, "0 1/3 1", "10 01"), (ABOUT, "0 1/3 2/3 1", "001 010 100"), (LEVEL, "0 1/3 1", "00 00"),
            (THREE, "0 1 2", "01 11"), (STEPS, "0 1 2 3 4", "0111 0000 0110 1110"),
            (TENT, "0 1/2 2/3 1", "111 001 110"), (made("0 0", "1 0"), "0 1", "0"),
        ):
            told = table_of(knots, points(*parting.split()))
            self.assertEqual(told, tuple(tuple(int(sign) for sign in row) for row in rows.split()), (knots, parting))

    def test_against_values_taken_one_by_one(self):
        some = 0
        for knots in some_maps(20, 150, 6, 4):
            parting = least_parting(knots, 13)
            if parting is None:
                continue
            told = table_of(knots, parting)
            self.assertTrue(type(told) is tuple and all(type(row) is tuple for row in told))
            self.assertTrue(all(is_whole(worth) for row in told for worth in row))
            self.assertEqual(told, self.table(knots, [number(point) for point in parting]), knots)
            some += 1
        self.assertGreater(some, 40)

    def table(self, knots, parting):
        """1 where the middle of a part is a value of a point within the other one."""
        parts = list(zip(parting, parting[1:]))
        rows = []
        for low, high in parts:
            one, other = sorted((height(knots, low), height(knots, high)))
            rows.append(tuple(int(one < (start + end) / 2 < other) for start, end in parts))
        return tuple(rows)

    def test_thirteen_points(self):
        knots = made("0 1", "11 12", "12 0")
        told = table_of(knots, least_parting(knots, 13))
        self.assertEqual(len(told), 12)
        self.assertEqual(told[:11], tuple(tuple(int(j == i + 1) for j in range(12)) for i in range(11)))
        self.assertEqual(told[11], (1,) * 12)

    def test_refused(self):
        for knots, parting in (
            (TENT, ""), (TENT, "0"), (TENT, "0 1"), (TENT, "0 1/3 1/2 1"), (TENT, "0 1/2"), (TENT, "1 1/2 0"), (LEVEL, "0 1"),
            (TENT, "0 1/2 1/2 1"), (STAYS, "0 1 2"), (STAYS, "0 2 1"),
        ):
            with self.assertRaises(NoParting) as caught:
                table_of(knots, points(*parting.split()))
            self.assertNotIsInstance(caught.exception, (NoPoint, NoLoop, NoMap))


if __name__ == "__main__":
    unittest.main()
