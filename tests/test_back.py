"""[8] and [9]: what comes to a point or into a stretch, what stays, what a stretch is laid over."""

import unittest

from bentstretch.errors import NoMap, NoPoint
from bentstretch.maps.back import comes_into, comes_to, laid_over, stays_of
from bentstretch.maps.turns import turned
from tests.helper import (
    are_rows, grid, height, is_row, lines_of, made, number, pair, some_maps, spans, spans_where,
)

TENT = made("0 0", "1/2 1", "1 0")
STAYS = made("0 0", "1 1")
ABOUT = made("0 1", "1 0")
STEPS = made("0 0", "1 2", "2 2", "3 2", "4 0", "5 2", "6 2")


def met(knots, worth):
    """All points at which the lines through neighbouring knots have a value."""
    return {(worth - nought) / slope for low, high, slope, nought in lines_of(knots) if slope}


def fixed(knots):
    """All points at which the lines through neighbouring knots meet the points themselves."""
    return {nought / (1 - slope) for low, high, slope, nought in lines_of(knots) if slope != 1}


class ComesTo(unittest.TestCase):

    def test_told(self):
        for knots, point, rows in (
            (TENT, "0", ("0", "1")), (TENT, "1", ("1/2",)), (TENT, "1/2", ("1/4", "3/4")), (TENT, "2/3", ("1/3", "2/3")),
            (STAYS, "3/7", ("3/7",)), (ABOUT, "0", ("1",)), (ABOUT, "1", ("0",)),
            (made("0 1/3", "1 1/3"), "1/3", ("0 1",)), (made("0 1/3", "1 1/3"), "1/2", ()),
            (made("0 1/3", "1/5 1/3", "1/2 1/3", "1 1/3"), "1/3", ("0 1",)),
            (STEPS, "2", ("1 3", "5 6")), (STEPS, "0", ("0", "4")), (STEPS, "1", ("1/2", "7/2", "9/2")), (STEPS, "5", ()),
            (made("0 0", "1/2 1/4", "1 0"), "1/3", ()),
            (made("0 1", "1/4 0", "1/2 0", "3/4 1", "1 0"), "0", ("1/4 1/2", "1")),
            (made("0 1", "1/4 1/2", "1/2 1/2", "3/4 0", "1 1"), "1/2", ("1/4 1/2", "7/8")),
            (made("0 0", "1/2 1/2", "1 1"), "1/2", ("1/2",)),
            (made("-3 -1", "-2 -3", "-1 -1"), "-1", ("-3", "-1")),
        ):
            self.assertEqual(comes_to(knots, pair(point)), spans(*rows), (knots, point))

    def test_against_values_taken_one_by_one(self):
        for knots in some_maps(8, 50, 8):
            for worth in grid(knots, 6) + [number(knot[1]) for knot in knots]:
                told = comes_to(knots, pair(worth))
                self.assertTrue(are_rows(told, 2))
                self.assertEqual(told, spans_where(knots, met(knots, worth), lambda at: height(knots, at) == worth))

    def test_outside(self):
        for point in ("-1", "-1/1000000000000", "1000000000001/1000000000000", "7"):
            with self.assertRaises(NoPoint):
                comes_to(TENT, pair(point))
        with self.assertRaises(NoPoint):
            comes_to(made("2 2", "3 3"), pair(0))


class Stays(unittest.TestCase):

    def test_told(self):
        for knots, rows in (
            (TENT, ("0", "2/3")), (STAYS, ("0 1",)), (ABOUT, ("1/2",)), (made("0 1/3", "1 1/3"), ("1/3",)),
            (made("0 0", "1/3 1/3", "1/2 1/2", "1 0"), ("0 1/2",)),
            (made("0 1", "1/2 1/2", "1 3/4"), ("1/2",)), (made("0 1", "1/2 1/2", "1 1"), ("1/2 1",)),
            (made("0 0", "1/4 1/4", "1/2 1", "3/4 3/4", "1 1"), ("0 1/4", "3/4 1")),
            (made("0 1", "1/4 1/4", "1/2 1/2", "1 0"), ("1/4 1/2",)),
            (made("0 0", "1/2 3/4", "1 1"), ("0", "1")), (made("0 1/2", "1/2 3/4", "1 1"), ("1",)),
            (made("0 0", "1/2 1/4", "1 1/2"), ("0",)), (made("-5 -3", "-4 -4", "-3 -4"), ("-4",)),
        ):
            self.assertEqual(stays_of(knots), spans(*rows), knots)

    def test_against_values_taken_one_by_one(self):
        for knots in some_maps(81, 120, 8, 4):
            told = stays_of(knots)
            self.assertTrue(are_rows(told, 2))
            self.assertEqual(told, spans_where(knots, fixed(knots), lambda at: height(knots, at) == at))
            self.assertTrue(told)


class LaidOver(unittest.TestCase):

    def test_told(self):
        for knots, low, high, ends in (
            (TENT, "0", "1", "0 1"), (TENT, "1/4", "3/4", "1/2 1"), (TENT, "1/4", "1/4", "1/2"), (TENT, "1/2", "1/2", "1"),
            (TENT, "1/4", "5/8", "1/2 1"), (TENT, "0", "1/4", "0 1/2"), (TENT, "3/4", "1", "0 1/2"),
            (TENT, "0", "0", "0"), (TENT, "1", "1", "0"), (STEPS, "1", "3", "2"), (STEPS, "1", "4", "0 2"),
            (STEPS, "0", "6", "0 2"), (STEPS, "7/2", "9/2", "0 1"), (made("-2 0", "0 -2"), "-3/2", "-1", "-1 -1/2"),
        ):
            self.assertEqual((laid_over(knots, pair(low), pair(high)),), spans(ends), (knots, low, high))
            self.assertTrue(is_row(laid_over(knots, pair(low), pair(high)), 2))

    def test_against_values_taken_one_by_one(self):
        for knots in some_maps(9, 30, 8):
            some = grid(knots, 5)
            for low in some:
                for high in [at for at in some if at >= low]:
                    amid = [number(knot[0]) for knot in knots if low <= number(knot[0]) <= high]
                    worths = [height(knots, at) for at in [low, high] + amid]
                    told = laid_over(knots, pair(low), pair(high))
                    self.assertEqual(told, (pair(min(worths)), pair(max(worths))))


class ComesInto(unittest.TestCase):

    def test_told(self):
        for knots, low, high, rows in (
            (TENT, "0", "1", ("0 1",)), (TENT, "0", "1/2", ("0 1/4", "3/4 1")), (TENT, "1/2", "1", ("1/4 3/4",)),
            (TENT, "1/4", "1/2", ("1/8 1/4", "3/4 7/8")), (TENT, "0", "0", ("0", "1")), (TENT, "1", "1", ("1/2",)),
            (STEPS, "2", "6", ("1 3", "5 6")), (STEPS, "0", "2", ("0 6",)), (STEPS, "3", "6", ()),
            (STEPS, "0", "1", ("0 1/2", "7/2 9/2")), (STEPS, "1", "2", ("1/2 7/2", "9/2 6")),
            (ABOUT, "1/5", "1/4", ("3/4 4/5",)), (made("0 1/3", "1 1/3"), "1/3", "1/2", ("0 1",)),
            (made("0 1/3", "1 1/3"), "0", "1/4", ()), (made("0 0", "1/2 1/2", "1 1"), "1/4", "3/4", ("1/4 3/4",)),
            (made("0 1", "1/4 1/2", "1/2 1", "3/4 0", "1 1"), "0", "1/2", ("1/4", "5/8 7/8")),
        ):
            self.assertEqual(comes_into(knots, pair(low), pair(high)), spans(*rows), (knots, low, high))

    def test_against_values_taken_one_by_one(self):
        for knots in some_maps(91, 30, 8):
            some = grid(knots, 4)
            for low in some:
                for high in [at for at in some if at >= low]:
                    told = comes_into(knots, pair(low), pair(high))
                    self.assertTrue(are_rows(told, 2))
                    turns = met(knots, low) | met(knots, high)
                    self.assertEqual(told, spans_where(knots, turns, lambda at: low <= height(knots, at) <= high))

    def test_of_a_point_as_comes_to(self):
        for knots in some_maps(92, 20, 8):
            for at in grid(knots, 5):
                self.assertEqual(comes_into(knots, pair(at), pair(at)), comes_to(knots, pair(at)))

    def test_told_maps_go_on(self):
        five = turned(TENT, 5)
        self.assertEqual(len(comes_to(five, pair("1/3"))), 32)
        self.assertEqual(len(comes_into(five, pair("0"), pair("1/3"))), 17)
        self.assertEqual(laid_over(five, pair("1/64"), pair("3/64")), (pair("1/2"), pair(1)))
        self.assertEqual(len(stays_of(five)), 32)


class NoStretch(unittest.TestCase):

    def test_refused(self):
        for low, high in (
            ("1/2", "1/3"), ("1", "0"), ("-1", "1/2"), ("1/2", "2"), ("-1", "2"), ("2", "3"), ("-2", "-1"), ("2", "2"),
            ("2", "-1"), ("0", "1001/1000"), ("-1/1000", "1"), ("1/2", "499999999999/1000000000000"),
        ):
            for asked in (laid_over, comes_into):
                with self.assertRaises(NoPoint) as caught:
                    asked(TENT, pair(low), pair(high))
                self.assertNotIsInstance(caught.exception, NoMap)


if __name__ == "__main__":
    unittest.main()
