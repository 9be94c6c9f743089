"""[6] and [7]: maps put one behind the other, turned maps, pieces and laps."""

import unittest
from itertools import product

from bentstretch.errors import NoMap, NoPoint
from bentstretch.maps.texts import map_shown, read_map
from bentstretch.maps.turns import laps_of, pieces_of, put_behind, turned
from bentstretch.maps.values import least_knots, value_of
from tests.helper import are_rows, fewest_lines, grid, height, is_whole, lines_of, made, number, pair, some_maps

TENT = made("0 0", "1/2 1", "1 0")
STAYS = made("0 0", "1 1")
ABOUT = made("0 1", "1 0")


def all_bends(one, other):
    """All points at which the one behind the other may bend, and midway between them."""
    bends = {number(knot[0]) for knot in one}
    for low, high, slope, nought in lines_of(one):
        if slope:
            met = [(number(knot[0]) - nought) / slope for knot in other]
            bends |= {at for at in met if low <= at <= high}
    ordered = sorted(bends)
    return ordered + [(low + high) / 2 for low, high in zip(ordered, ordered[1:])]


class Behind(unittest.TestCase):

    def test_told(self):
        for one, other, told in (
            (TENT, TENT, made("0 0", "1/4 1", "1/2 0", "3/4 1", "1 0")),
            (TENT, ABOUT, made("0 1", "1/2 0", "1 1")),
            (ABOUT, TENT, TENT),
            (ABOUT, ABOUT, STAYS),
            (STAYS, TENT, TENT), (TENT, STAYS, TENT),
            (made("0 0", "1/2 1/2", "1 1"), made("0 0", "1/3 1/3", "1 1"), STAYS),
            (made("0 0", "1 1/2"), TENT, STAYS),
            (TENT, made("0 0", "1 1/2"), made("0 0", "1/2 1/2", "1 0")),
            (made("0 1/3", "1 1/3"), TENT, made("0 2/3", "1 2/3")),
            (TENT, made("0 1/3", "1 1/3"), made("0 1/3", "1 1/3")),
            (made("0 0", "1/4 1/2", "3/4 1/2", "1 1"), TENT, made("0 0", "1/4 1", "3/4 1", "1 0")),
            (made("0 1", "1/2 0", "1 1"), made("0 0", "1/3 1", "1 1/3"),
             made("0 1/3", "1/3 1", "1/2 0", "2/3 1", "1 1/3")),
        ):
            self.assertEqual(put_behind(one, other), told, (one, other))

    def test_the_first_goes_first(self):
        one, other = made("0 0", "1/2 1/4", "1 1"), made("0 1/2", "1/4 1", "1 0")
        self.assertEqual(value_of(put_behind(one, other), pair("1/2")), pair(1))
        self.assertEqual(value_of(put_behind(other, one), pair("1/2")), pair("1/2"))

    def test_against_values_taken_one_by_one(self):
        maps = some_maps(61, 25, 8)
        for one in maps:
            other = self.of_the_same_stretch(one, maps)
            told = put_behind(one, other)
            self.assertTrue(are_rows(told, 2))
            for at in all_bends(one, other) + grid(told, 13):
                self.assertEqual(height(told, at), height(other, height(one, at)))
            self.assertEqual(least_knots(told), told)

    def of_the_same_stretch(self, one, maps):
        """A map of the list's, drawn to the stretch of another one."""
        found = maps[(maps.index(one) * 7 + 3) % len(maps)]
        low, wide = number(one[0][0]), number(one[-1][0]) - number(one[0][0])
        old_low, old_wide = number(found[0][0]), number(found[-1][0]) - number(found[0][0])
        return tuple(tuple(pair((number(end) - old_low) / old_wide * wide + low) for end in knot) for knot in found)

    def test_unlike_stretches(self):
        for one, other in (
            (TENT, made("0 0", "2 1")), (made("0 0", "2 1"), TENT), (TENT, made("-1 0", "1 1")),
            (made("1/1000 1/2", "1 1"), TENT), (TENT, made("5 5", "6 6")), (made("-1 0", "2 1"), STAYS),
        ):
            with self.assertRaises(NoMap) as caught:
                put_behind(one, other)
            self.assertEqual(caught.exception.row, 0)
            self.assertIs(type(caught.exception.row), int)
            self.assertNotIsInstance(caught.exception, NoPoint)

    def test_told_maps_go_on(self):
        five = turned(TENT, 5)
        self.assertEqual(len(five), 33)
        self.assertEqual(put_behind(five, TENT), turned(TENT, 6))
        self.assertEqual(put_behind(TENT, five), turned(TENT, 6))
        self.assertEqual(read_map(map_shown(five)), five)


class Turned(unittest.TestCase):

    def test_told(self):
        straight = made("0 0", "1/4 1/2", "1/2 1", "1 0")
        for knots in (TENT, straight):
            self.assertEqual(turned(knots, 0), STAYS)
            self.assertEqual(turned(knots, 1), TENT)
            self.assertEqual(turned(knots, 2), made("0 0", "1/4 1", "1/2 0", "3/4 1", "1 0"))
            self.assertEqual(len(turned(knots, 7)), 129)
        self.assertEqual(turned(made("-2 5", "5 -2"), 0), made("-2 -2", "5 5"))
        for many in range(8):
            self.assertEqual(turned(ABOUT, many), ABOUT if many % 2 else STAYS)
        for many in range(1, 8):
            self.assertEqual(turned(made("0 1/3", "1 1/3"), many), made("0 1/3", "1 1/3"))

    def test_against_values_taken_one_by_one(self):
        for knots in some_maps(62, 40, 6):
            pieces = len(fewest_lines(knots))
            many = max(many for many in range(1, 8) if pieces ** many <= 130)
            for turns in range(many + 1):
                told = turned(knots, turns)
                self.assertTrue(are_rows(told, 2))
                self.assertEqual(least_knots(told), told)
                for at in grid(told, 9):
                    worth = at
                    for turn in range(turns):
                        worth = height(knots, worth)
                    self.assertEqual(height(told, at), worth)

    def test_straight_between_its_knots(self):
        for knots in some_maps(63, 20, 4):
            told = turned(knots, 3)
            for at in all_bends(turned(knots, 2), knots):
                self.assertEqual(height(told, at), height(knots, height(knots, height(knots, at))))


class Pieces(unittest.TestCase):

    def test_told(self):
        for knots, rows in (
            (TENT, ("0 1/2 2", "1/2 1 -2")),
            (STAYS, ("0 1 1",)), (ABOUT, ("0 1 -1",)), (made("-1 0", "3/2 0"), ("-1 3/2 0",)),
            (made("0 0", "1/4 1/2", "1/2 1", "3/4 1", "1 1"), ("0 1/2 2", "1/2 1 0")),
            (made("-3/2 2", "-1/3 -1", "0 -1", "5/7 1/2", "2 -3/2"),
             ("-3/2 -1/3 -18/7", "-1/3 0 0", "0 5/7 21/10", "5/7 2 -14/9")),
        ):
            self.assertEqual(pieces_of(knots), made(*rows))
            self.assertTrue(are_rows(pieces_of(knots), 3))

    def test_of_the_fewest_knots(self):
        for knots in some_maps(7, 40, 8, 2):
            told = tuple((pair(low), pair(high), pair(slope)) for low, high, slope, nought in fewest_lines(knots))
            self.assertEqual(pieces_of(knots), told)


class Laps(unittest.TestCase):

    def test_told(self):
        for knots, many in (
            (STAYS, 1), (ABOUT, 1), (made("0 1/2", "1 1/2"), 1), (TENT, 2), (turned(TENT, 5), 32),
            (made("0 0", "1/2 1/4", "1 1"), 1), (made("0 0", "1/3 1/2", "2/3 1/2", "1 1"), 1),
            (made("0 0", "1/3 1/2", "2/3 1/2", "1 0"), 2), (made("0 1/2", "1/3 1/2", "2/3 0", "1 1"), 2),
            (made("0 1", "1/3 0", "2/3 1", "1 1"), 2), (made("0 1", "1/4 1", "1/2 0", "3/4 0", "1 0"), 1),
        ):
            self.assertEqual(laps_of(knots), many, knots)
            self.assertTrue(is_whole(laps_of(knots)))

    def test_every_order_of_rising_falling_and_level(self):
        for long in range(1, 6):
            for ways in product((-1, 0, 1), repeat=long):
                worths = [long]
                for way in ways:
                    worths.append(worths[-1] + way)
                knots = tuple((pair(2 * at), pair(to)) for at, to in enumerate(worths))
                self.assertEqual(laps_of(knots), self.least_laps(ways), ways)

    def least_laps(self, ways):
        """The least number of runs without both a rise and a fall, over all partings."""
        least = {0: 0}
        for end in range(1, len(ways) + 1):
            starts = [start for start in range(end) if not {-1, 1} <= set(ways[start:end])]
            least[end] = min(least[start] + 1 for start in starts)
        return least[len(ways)]


if __name__ == "__main__":
    unittest.main()
