"""[12] and [13]: what turns do to the points beside a point that comes round, and the slope of a round."""

import unittest
from fractions import Fraction
from time import perf_counter

from bentstretch.errors import NoMap, NoPoint
from bentstretch.maps.turns import turned
from bentstretch.rounds.rounds import come_round, rounds_of
from bentstretch.rounds.sides import sides_at, slope_of_round
from tests.helper import (
    fewest_lines, height, is_fraction, led, lines_of, made, number, on_through, pair, points, some_maps, stays_on,
    zigzag,
)

TENT = made("0 0", "1/2 1", "1 0")
STAYS = made("0 0", "1 1")
ABOUT = made("0 1", "1 0")
LEVEL = made("0 1/3", "1 1/3")
CHANGED = made("0 2", "1 3", "2 0", "3 1")
THREE = made("0 1", "1 2", "2 0")
# Near enough to a point for every map of these tests: none of them has knots or bends so close together.
NEAR = Fraction(1, 10 ** 80)


def bent(low_slope, high_slope):
    """A map that keeps 0, with one slope below and one above it."""
    low, high = Fraction(low_slope), Fraction(high_slope)
    wide = max(1, abs(low), abs(high))
    return tuple(
        (pair(at), pair(to)) for at, to in ((-wide * wide, -low * wide), (-wide, -low * wide), (0, 0),
                                            (wide, high * wide), (wide * wide + 1, high * wide))
    ) if wide > 1 else ((pair(-1), pair(-low)), (pair(0), pair(0)), (pair(1), pair(high)))


def seen(knots, at, many, side):
    """What becomes of a point very near, by its distances behind the first time and two times later."""
    first = led(knots, at + side * NEAR, many)
    third = led(knots, first, 2 * many)
    if third == at:
        return "in"
    one, three = abs(first - at), abs(third - at)
    return "in" if three < one else "out" if three > one else "round"


def all_seen(knots, at, many):
    ends = number(knots[0][0]), number(knots[-1][0])
    sides = [side for side, end in ((-1, ends[0]), (1, ends[1])) if at != end]
    return tuple(seen(knots, at, many, side) for side in sides)


def length_seen(knots, at, most):
    worth = at
    for turn in range(1, most + 1):
        worth = height(knots, worth)
        if worth == at:
            return turn
    return None


def most_turns(knots):
    pieces = len(fewest_lines(knots))
    return max(many for many in range(1, 8) if pieces ** many <= 130)


class Sides(unittest.TestCase):

    def test_told(self):
        for knots, point, many, told in (
            (TENT, "0", 1, "out"), (TENT, "2/3", 1, "out out"), (TENT, "2/5", 2, "out out"), (TENT, "6/7", 3, "out out"),
            (STAYS, "0", 1, "round"), (STAYS, "1", 1, "round"), (STAYS, "3/7", 1, "round round"),
            (ABOUT, "1/2", 1, "round round"), (ABOUT, "1/3", 2, "round round"), (ABOUT, "0", 2, "round"),
            (ABOUT, "1", 2, "round"), (LEVEL, "1/3", 1, "in in"), (made("0 0", "1 0"), "0", 1, "in"),
            (made("0 1", "1 1"), "1", 1, "in"), (CHANGED, "3/2", 1, "out out"), (CHANGED, "0", 2, "round"),
            (CHANGED, "1", 2, "round round"), (CHANGED, "2", 2, "round round"), (CHANGED, "5/2", 2, "round round"),
            (THREE, "0", 3, "out"), (THREE, "1", 3, "out out"), (THREE, "2", 3, "out"),
            (made("0 0", "1 1/2"), "0", 1, "in"), (made("0 1/2", "1 1"), "1", 1, "in"),
            (made("0 1/2", "1 1/4"), "2/5", 1, "in in"),
        ):
            self.assertEqual(sides_at(knots, pair(point), many), tuple(told.split()), (knots, point, many))

    def test_each_two_slopes_beside_a_point(self):
        for low, high, told in (
            ("1/2", "1/2", "in in"), ("1/2", "2", "in out"), ("2", "1/2", "out in"), ("1", "1/3", "round in"),
            ("1", "2", "round out"), ("0", "2", "in out"), ("3", "0", "out in"), ("0", "0", "in in"), ("1", "0", "round in"),
            ("-1", "-1", "round round"), ("-2", "-1/2", "round round"), ("-1/3", "-3", "round round"),
            ("-2", "-1/3", "in in"), ("-2", "-2/3", "out out"), ("-5", "-1/4", "out out"), ("-1/2", "-1/2", "in in"),
            ("-2", "1/2", "in in"), ("-2", "1", "round round"), ("-2", "3/2", "out out"), ("-1/2", "2", "out out"),
            ("-3", "0", "in in"), ("0", "-3", "in in"), ("1/2", "-3", "in in"), ("1", "-7", "round round"),
            ("1", "-1/7", "round round"), ("3", "-1/7", "out out"), ("-1/9", "1", "round round"),
        ):
            knots = bent(low, high)
            self.assertEqual(sides_at(knots, (0, 1), 1), tuple(told.split()), (low, high))
            self.assertEqual(all_seen(knots, Fraction(0), 1), tuple(told.split()), (low, high))

    def test_level_later(self):
        # 0 goes to 1, that to 2, that back; only above 1 and below 2 it is level.
        knots = made("0 1", "1 2", "3/2 2", "7/4 0", "2 0")
        self.assertEqual(sides_at(knots, (0, 1), 3), ("in",))
        self.assertEqual(sides_at(knots, (1, 1), 3), ("in", "in"))
        self.assertEqual(sides_at(knots, (2, 1), 3), ("in",))
        # The low side is led to the high one, which is level from there on.
        self.assertEqual(sides_at(made("0 1", "1/2 1/2", "1 1/2"), pair("1/2"), 1), ("in", "in"))

    def test_against_points_very_near(self):
        some = {}
        for knots in some_maps(12, 80, 6, 4) + some_maps(121, 60, 3, 4) + some_maps(122, 30, 8, 3):
            for many in range(1, most_turns(knots) + 1):
                for low, high in come_round(knots, many):
                    midway = pair((number(low) + number(high)) / 2)
                    for point in (low, high, midway):
                        self.look(knots, point, many, some)
        self.assertEqual({one for told in some for one in told}, {"in", "out", "round"})
        # All of one side; of two all but those that only chosen slopes bring.
        self.assertGreater(len(some), 9)

    def look(self, knots, point, many, some):
        at = number(point)
        if length_seen(knots, at, many) != many:
            with self.assertRaises(NoPoint):
                sides_at(knots, point, many)
            return
        told = sides_at(knots, point, many)
        self.assertIs(type(told), tuple)
        self.assertEqual(told, all_seen(knots, at, many), (knots, point, many))
        some[told] = some.get(told, 0) + 1

    def test_another_length(self):
        for knots, point, many in (
            (TENT, "2/3", 2), (TENT, "0", 7), (TENT, "2/5", 1), (TENT, "2/5", 4), (TENT, "2/5", 3), (TENT, "2/7", 6),
            (TENT, "1/3", 1), (TENT, "1/2", 7), (TENT, "1", 1), (TENT, "1/7", 3), (ABOUT, "1/2", 2), (ABOUT, "1/3", 1),
            (ABOUT, "1/3", 4), (STAYS, "1/3", 2), (LEVEL, "0", 1), (LEVEL, "1/3", 2), (THREE, "0", 6), (THREE, "0", 1),
            (TENT, "0", 0),
        ):
            with self.assertRaises(NoPoint) as caught:
                sides_at(knots, pair(point), many)
            self.assertNotIsInstance(caught.exception, NoMap)

    def test_outside(self):
        for point in ("-1", "-1/1000000000000", "1000000000001/1000000000000", "2"):
            for many in range(1, 8):
                with self.assertRaises(NoPoint):
                    sides_at(TENT, pair(point), many)

    def test_knots_that_go_straight_on(self):
        knots = made("0 0", "1/4 1/2", "2/5 4/5", "1/2 1", "4/5 2/5", "1 0")
        self.assertEqual(sides_at(knots, pair("2/5"), 2), ("out", "out"))
        self.assertEqual(sides_at(knots, pair("4/5"), 2), ("out", "out"))

    def test_told_maps_go_on(self):
        five = turned(TENT, 5)
        self.assertEqual(sides_at(five, pair("2/31"), 1), ("out", "out"))
        self.assertEqual(sides_at(five, pair("2/1025"), 2), ("out", "out"))


class SevenTurns(unittest.TestCase):
    """Seven turns of maps of eight knots, within seconds."""

    def told_soon(self, knots, point, many):
        start = perf_counter()
        told = sides_at(knots, point, many)
        self.assertLess(perf_counter() - start, 2)
        return told

    def test_points_within_pieces(self):
        for knots in (
            zigzag(8), made("0 1", "1/9973 0", "2/9 1", "3334/9999 0", "4/9 1", "5001/9001 0", "6/9 1", "1 0"),
        ):
            lines = fewest_lines(knots)
            for word in ((0, 1, 2, 3, 4, 5, 6), (6, 5, 0, 3, 3, 0, 1), (1, 0, 0, 0, 0, 0, 0)):
                way = lines[word[0]]
                for part in word[1:]:
                    way = on_through(way, lines[part])[0]
                at = stays_on(way)[0][0]
                self.assertEqual(length_seen(knots, at, 7), 7)
                self.assertEqual(self.told_soon(knots, pair(at), 7), ("out", "out"))
                for many in range(1, 7):
                    with self.assertRaises(NoPoint):
                        sides_at(knots, pair(at), many)

    def test_points_at_knots(self):
        knots = made("0 3", "1 5", "2 6", "3 4", "4 1", "5 2", "6 0", "7 7/2")
        for at in range(7):
            told = self.told_soon(knots, pair(at), 7)
            self.assertEqual(told, all_seen(knots, Fraction(at), 7))
            self.assertEqual(len(told), 1 if at == 0 else 2)

    def test_level_beside_knots(self):
        knots = made("0 3", "1 5", "2 6", "3 4", "4 1", "9/2 1", "5 2", "6 0")
        with self.assertRaises(NoPoint):
            sides_at(knots, pair("9/2"), 7)
        told = [self.told_soon(knots, pair(at), 7) for at in range(7)]
        self.assertEqual(told, [all_seen(knots, Fraction(at), 7) for at in range(7)])
        self.assertIn("in", told[4])


class Slopes(unittest.TestCase):

    def test_told(self):
        for knots, way, slope in (
            (TENT, "0", "2"), (TENT, "2/3", "-2"), (TENT, "2/5 4/5", "-4"), (TENT, "2/9 4/9 8/9", "-8"),
            (TENT, "2/7 4/7 6/7", "8"), (ABOUT, "1/2", "-1"), (LEVEL, "1/3", "0"), (CHANGED, "3/2", "-3"),
            (THREE, "0 1 2", None), (THREE, "2/3 5/3", "-2"), (THREE, "4/3", "-2"),
            (made("0 0", "1/2 1/4", "1 1"), "0", "1/2"), (made("0 0", "1/2 1/4", "1 1"), "1", "3/2"),
            (made("0 1", "1/4 1/4", "1 0"), "1/4", None), (made("0 1", "1/3 1/3", "1/2 0", "1 1"), "1/3", "-2"),
            (made("0 1", "1/3 1/3", "1 1/2"), "1/3", None), (made("0 1/2", "1/4 1/4", "1/2 0", "1 0"), "1/4", "-1"),
            (made("0 1", "1/2 1", "1 0"), "0 1", "0"), (made("0 0", "1/5 1/10", "4/5 9/10", "1 1"), "1", "1/2"),
            # One point has slope 0, the other one two slopes: none is told.
            (made("0 1", "1/4 1", "1/2 1/4", "1 1/4"), "1/4 1", None),
            (made("-1 1", "0 -1/2", "1 -1"), "-1 1", "3/4"), (made("-1 1", "0 0", "1 -1"), "-1 1", "1"),
        ):
            told = slope_of_round(knots, points(*way.split()))
            self.assertEqual(told, None if slope is None else pair(slope), (knots, way))

    def test_against_lines(self):
        nones = some = 0
        for knots in some_maps(13, 60, 6, 3) + some_maps(131, 60, 3, 4) + some_maps(132, 30, 8, 2):
            for many in range(1, most_turns(knots) + 1):
                for way in rounds_of(knots, many):
                    told = slope_of_round(knots, way)
                    self.assertEqual(told, self.product(knots, way), (knots, way))
                    self.assertTrue(told is None or is_fraction(told))
                    nones, some = nones + (told is None), some + (told is not None)
        self.assertGreater(nones, 10)
        self.assertGreater(some, 100)

    def product(self, knots, way):
        told = Fraction(1)
        for at in [number(point) for point in way]:
            slopes = {slope for low, high, slope, nought in lines_of(knots) if low <= at <= high}
            if len(slopes) > 1:
                return None
            told *= slopes.pop()
        return pair(told)

    def test_as_the_turned_map_rises(self):
        for many in range(1, 8):
            for way in rounds_of(TENT, many):
                at = number(way[0])
                slope = (led(TENT, at + NEAR, many) - at) / NEAR
                self.assertEqual(slope_of_round(TENT, way), pair(slope))


if __name__ == "__main__":
    unittest.main()
