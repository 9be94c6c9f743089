"""[14] and [15]: the way of a point, and by how many turns two points are told apart."""

import unittest
from fractions import Fraction

from bentstretch.errors import NoMap, NoPoint
from bentstretch.maps.turns import turned
from bentstretch.rounds.ways import told_apart, way_of
from tests.helper import grid, height, is_row, is_whole, led, made, number, pair, points, some_maps

TENT = made("0 0", "1/2 1", "1 0")
STAYS = made("0 0", "1 1")
ABOUT = made("0 1", "1 0")
LEVEL = made("0 1/3", "1 1/3")
HALF = made("0 0", "1 1/2")
OUTSIDE = ("-1", "-1/1000000000000", "1000000000001/1000000000000", "7")


class Ways(unittest.TestCase):

    def test_round(self):
        for knots, point, ahead, length in (
            (TENT, "0", 0, 1), (TENT, "2/3", 0, 1), (TENT, "2/5", 0, 2), (TENT, "4/5", 0, 2), (TENT, "1", 1, 1),
            (TENT, "1/2", 2, 1), (TENT, "1/4", 3, 1), (TENT, "1/3", 1, 1), (TENT, "1/5", 1, 2), (TENT, "1/10", 2, 2),
            (TENT, "1/7", 1, 3), (TENT, "1/56", 4, 3), (STAYS, "3/7", 0, 1), (ABOUT, "3/7", 0, 2), (ABOUT, "1/2", 0, 1),
            (LEVEL, "0", 1, 1), (LEVEL, "1/3", 0, 1), (LEVEL, "1", 1, 1),
        ):
            just = ahead + length
            for many in (just, just + 1, 40):
                told = way_of(knots, pair(point), many)
                self.assertEqual(told, ("round", ahead, length), (knots, point, many))
                self.assertTrue(type(told) is tuple and is_whole(told[1]) and is_whole(told[2]))
            kind, way = way_of(knots, pair(point), just - 1)
            self.assertEqual((kind, len(way)), ("open", just), (knots, point))

    def test_open(self):
        for knots, point, many, way in (
            (TENT, "0", 0, "0"), (TENT, "1/3", 0, "1/3"), (TENT, "1/3", 1, "1/3 2/3"), (TENT, "1", 1, "1 0"),
            (TENT, "2/5", 1, "2/5 4/5"), (TENT, "1/8", 3, "1/8 1/4 1/2 1"), (HALF, "1", 3, "1 1/2 1/4 1/8"),
        ):
            self.assertEqual(way_of(knots, pair(point), many), ("open", points(*way.split())), (knots, point, many))

    def test_so_many_points_and_one(self):
        for many in range(41):
            told = way_of(HALF, pair("999999999999/1000000000000"), many)
            self.assertEqual((told[0], len(told), len(told[1])), ("open", 2, many + 1))
            self.assertTrue(is_row(told[1], many + 1))
            start = Fraction(999999999999, 10 ** 12)
            self.assertEqual(told[1], tuple(pair(start / 2 ** turn) for turn in range(many + 1)))

    def test_against_values_taken_one_by_one(self):
        kinds = {"round": 0, "open": 0}
        for knots in some_maps(14, 40, 8, 4) + some_maps(141, 40, 3, 3):
            for at in grid(knots, 7):
                for many in (0, 1, 2, 3, 5, 9):
                    told = way_of(knots, pair(at), many)
                    self.assertEqual(told, self.told(knots, at, many), (knots, at, many))
                    kinds[told[0]] += 1
        self.assertGreater(min(kinds.values()), 500)

    def told(self, knots, at, many):
        way = [at]
        for turn in range(many):
            way.append(height(knots, way[-1]))
        again = [turn for turn in range(many + 1) if way[turn] in way[:turn]]
        if again:
            ahead = way.index(way[again[0]])
            return ("round", ahead, again[0] - ahead)
        return ("open", tuple(pair(point) for point in way))

    def test_forty_turns_of_four_figures(self):
        knots = made("0 1/9973", "4999/9973 9999/10000", "1 1/7919")
        kind, way = way_of(knots, pair("123456789012/987654321098"), 40)
        self.assertEqual((kind, len(way)), ("open", 41))
        self.assertEqual(number(way[-1]), led(knots, number(way[0]), 40))

    def test_told_maps_and_points_go_on(self):
        five = turned(TENT, 5)
        self.assertEqual(way_of(five, pair("2/31"), 40), ("round", 0, 1))
        way = way_of(HALF, pair(1), 40)[1]
        self.assertEqual(way_of(HALF, way[-1], 2)[1][0], way[-1])

    def test_outside(self):
        for point in OUTSIDE:
            for many in (0, 1, 40):
                with self.assertRaises(NoPoint) as caught:
                    way_of(TENT, pair(point), many)
                self.assertNotIsInstance(caught.exception, NoMap)


class ToldApart(unittest.TestCase):

    def test_told(self):
        for knots, one, other, width, many, turns in (
            (TENT, "1/3", "1/3", "0", 40, None), (TENT, "1/3", "1/3", "-1/1000000000000", 0, 0),
            (TENT, "1/3", "1/3", "1", 40, None), (TENT, "1/4", "3/4", "0", 40, 0), (TENT, "1/4", "3/4", "1/2", 40, None),
            (TENT, "1/4", "3/4", "499999999999/1000000000000", 0, 0), (TENT, "3/4", "1/4", "1/2", 40, None),
            (TENT, "0", "1/1024", "1/3", 40, 9), (TENT, "0", "1/1024", "1/2", 40, 10), (TENT, "1/1024", "0", "1/2", 40, 10),
            (TENT, "0", "1/1024", "1/2", 10, 10), (TENT, "0", "1/1024", "1/2", 9, None), (TENT, "0", "1/1024", "1", 40, None),
            (TENT, "0", "1", "1", 40, None), (TENT, "0", "1", "0", 0, 0), (TENT, "0", "0", "0", 0, None),
            (TENT, "0", "1", "-5", 0, 0), (STAYS, "1/3", "1/2", "1/6", 40, None), (STAYS, "1/3", "1/2", "1/7", 40, 0),
            (HALF, "0", "1", "1/2", 40, 0), (HALF, "0", "1", "1", 40, None), (HALF, "0", "1", "999999999999", 40, None),
            (TENT, "2/5", "4/5", "2/5", 40, None), (TENT, "2/5", "1/2", "1/10", 40, 1), (TENT, "2/5", "1/2", "1/2", 40, 3),
            (LEVEL, "0", "1", "1", 40, None), (TENT, "0", "1/4", "1/4", 0, None), (TENT, "0", "1/4", "1/4", 1, 1),
        ):
            told = told_apart(knots, pair(one), pair(other), pair(width), many)
            self.assertEqual(told, turns, (knots, one, other, width, many))
            self.assertTrue(told is None or is_whole(told))

    def test_against_values_taken_one_by_one(self):
        some = {}
        for knots in some_maps(15, 12, 6, 4):
            ends = grid(knots, 3)
            wide = ends[-1] - ends[0]
            for one in ends:
                for other in ends:
                    for width in (-wide, 0, wide / 12, wide / 4, wide / 3, wide):
                        told = told_apart(knots, pair(one), pair(other), pair(width), 6)
                        apart = [abs(led(knots, one, turn) - led(knots, other, turn)) > width for turn in range(7)]
                        self.assertEqual(told, apart.index(True) if True in apart else None)
                        some[told] = some.get(told, 0) + 1
        self.assertGreater(len(some), 5)

    def test_forty_turns(self):
        one = pair(Fraction(1, 2 ** 39))
        self.assertEqual(told_apart(TENT, pair(0), one, pair("1/2"), 40), 39)
        self.assertEqual(told_apart(TENT, pair(0), pair(Fraction(1, 2 ** 40)), pair("1/2"), 40), 40)
        self.assertIsNone(told_apart(TENT, pair(0), pair(Fraction(1, 2 ** 41)), pair("1/2"), 40))

    def test_outside(self):
        for point in OUTSIDE:
            for many in (0, 1, 40):
                for width in ("-1", "0", "5"):
                    for one, other in ((point, "1/2"), ("1/2", point), (point, point)):
                        with self.assertRaises(NoPoint):
                            told_apart(TENT, pair(one), pair(other), pair(width), many)


if __name__ == "__main__":
    unittest.main()
