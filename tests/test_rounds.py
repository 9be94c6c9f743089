"""[10], [11] and [3]: what comes round by so many turns, and the lone rounds of a length."""

import unittest
from time import perf_counter

from bentstretch.maps.turns import turned
from bentstretch.rounds.rounds import come_round, rounds_of
from tests.helper import (
    are_rows, fewest_lines, height, hung_together, is_row, made, number, on_through, pair, points, some_maps, spans,
    stays_on,
)

TENT = made("0 0", "1/2 1", "1 0")
STAYS = made("0 0", "1 1")
ABOUT = made("0 1", "1 0")
# Two stretches that change places, and a point amid them that stays.
CHANGED = made("0 2", "1 3", "2 0", "3 1")
# A round of three, 0 1 2, as in the oldest such map.
THREE = made("0 1", "1 2", "2 0")
LEVEL = made("0 1/3", "1 1/3")


def round_spans(knots, many):
    """What comes round, told word by word: each way through the pieces is a straight line of its own."""
    lines = fewest_lines(knots)
    ways = lines
    for turn in range(many - 1):
        ways = [found for way in ways for line in lines for found in on_through(way, line)]
    return hung_together([span for way in ways for span in stays_on(way)])


def lone_rounds(knots, many):
    """The lone rounds, as the document has them, by what comes round."""
    rows = [(number(low), number(high)) for low, high in round_spans(knots, many)]
    told = []
    for low, high in rows:
        way = [low]
        while len(way) < many:
            way.append(height(knots, way[-1]))
        wide = any(one <= point <= other and one != other for point in way for one, other in rows)
        if low == high and not wide and len(set(way)) == many and min(way) == low:
            told.append(tuple(pair(point) for point in way))
    return tuple(told)


def most_turns(knots):
    pieces = len(fewest_lines(knots))
    return max(many for many in range(1, 8) if pieces ** many <= 130)


class ComeRound(unittest.TestCase):

    def test_told(self):
        for knots, many, rows in (
            (TENT, 1, ("0", "2/3")), (TENT, 2, ("0", "2/5", "2/3", "4/5")),
            (TENT, 3, ("0", "2/9", "2/7", "4/9", "4/7", "2/3", "6/7", "8/9")),
            (STAYS, 1, ("0 1",)), (STAYS, 7, ("0 1",)), (ABOUT, 1, ("1/2",)), (ABOUT, 2, ("0 1",)), (ABOUT, 3, ("1/2",)),
            (ABOUT, 6, ("0 1",)), (ABOUT, 7, ("1/2",)), (LEVEL, 1, ("1/3",)), (LEVEL, 5, ("1/3",)),
            (CHANGED, 1, ("3/2",)), (CHANGED, 2, ("0 1", "3/2", "2 3")), (CHANGED, 4, ("0 1", "3/2", "2 3")),
            (CHANGED, 3, ("3/2",)), (THREE, 1, ("4/3",)), (THREE, 2, ("2/3", "4/3", "5/3")),
            (THREE, 3, ("0", "1", "4/3", "2")),
            (made("0 0", "1/3 1/3", "1/2 1/2", "1 0"), 1, ("0 1/2",)),
        ):
            self.assertEqual(come_round(knots, many), spans(*rows), (knots, many))
            self.assertEqual(come_round(knots, many), round_spans(knots, many), (knots, many))

    def test_against_ways_through_the_pieces(self):
        for knots in some_maps(10, 60, 6, 4) + some_maps(101, 40, 3, 4) + some_maps(102, 20, 8):
            for many in range(1, most_turns(knots) + 1):
                told = come_round(knots, many)
                self.assertTrue(are_rows(told, 2))
                self.assertEqual(told, round_spans(knots, many), (knots, many))

    def test_each_comes_round(self):
        for knots in some_maps(103, 30, 4):
            for many in (1, 2, 3):
                for low, high in come_round(knots, many):
                    for start in (number(low), number(high), (number(low) + number(high)) / 2):
                        at = start
                        for turn in range(many):
                            at = height(knots, at)
                        self.assertEqual(at, start)


class Rounds(unittest.TestCase):

    def test_told(self):
        for knots, many, rows in (
            (TENT, 1, ("0", "2/3")), (TENT, 2, ("2/5 4/5",)), (TENT, 3, ("2/9 4/9 8/9", "2/7 4/7 6/7")),
            (TENT, 4, ("2/17 4/17 8/17 16/17", "2/15 4/15 8/15 14/15", "6/17 12/17 10/17 14/17")),
            (STAYS, 1, ()), (STAYS, 2, ()), (ABOUT, 1, ("1/2",)), (ABOUT, 2, ()), (ABOUT, 3, ()), (LEVEL, 1, ("1/3",)),
            (LEVEL, 2, ()), (CHANGED, 1, ("3/2",)), (CHANGED, 2, ()), (CHANGED, 4, ()), (THREE, 1, ("4/3",)),
            (THREE, 2, ("2/3 5/3",)), (THREE, 3, ("0 1 2",)),
        ):
            self.assertEqual(rounds_of(knots, many), tuple(points(*row.split()) for row in rows), (knots, many))

    def test_the_least_point_first(self):
        falling = made("0 1", "1/2 0", "1 1/2")
        self.assertEqual(rounds_of(falling, 3)[0], points("0", "1", "1/2"))
        self.assertEqual(rounds_of(made("0 2", "1 0", "2 1"), 3)[0], points("0", "2", "1"))

    def test_how_many_of_each_length(self):
        self.assertEqual([len(rounds_of(TENT, many)) for many in range(1, 8)], [2, 1, 2, 3, 6, 9, 18])

    def test_in_order(self):
        for knots in [TENT, THREE] + some_maps(111, 20, 4):
            for many in range(1, most_turns(knots) + 1):
                firsts = [number(way[0]) for way in rounds_of(knots, many)]
                self.assertEqual(firsts, sorted(set(firsts)))

    def test_a_round_beside_a_stretch_that_comes_round(self):
        # Length 2 by the low stretch, which changes with the one above it; 0 and 6 are a lone round.
        knots = made("0 6", "1 4", "2 5", "4 1", "5 2", "6 0")
        for many in (1, 2):
            self.assertEqual(rounds_of(knots, many), lone_rounds(knots, many))
        self.assertIn(points("0", "6"), rounds_of(knots, 2))
        self.assertIn((pair(1), pair(2)), come_round(knots, 2))
        self.assertIn((pair(4), pair(5)), come_round(knots, 2))

    def test_against_ways_through_the_pieces(self):
        some = 0
        for knots in some_maps(11, 60, 6, 4) + some_maps(112, 40, 3, 4) + some_maps(113, 20, 8):
            for many in range(1, most_turns(knots) + 1):
                told = rounds_of(knots, many)
                self.assertTrue(are_rows(told, many))
                self.assertEqual(told, lone_rounds(knots, many), (knots, many))
                some += len(told) if many > 1 else 0
        self.assertGreater(some, 100)

    def test_all_that_comes_round_is_told_or_in_a_stretch(self):
        for knots in some_maps(114, 30, 4):
            many = most_turns(knots)
            divisors = [part for part in range(1, many + 1) if many % part == 0]
            in_rounds = {point for part in divisors for way in rounds_of(knots, part) for point in way}
            wide = [span for part in divisors for span in come_round(knots, part) if span[0] != span[1]]
            for low, high in come_round(knots, many):
                held = any(number(one) <= number(low) <= number(other) for one, other in wide)
                self.assertTrue(low in in_rounds or held or low != high)


class Most(unittest.TestCase):
    """As many turns as the document lets, of maps with four figures, within seconds."""

    def test_within_seconds(self):
        two = made("1/9973 9999/9967", "5000/9949 1/9973", "9999/9967 9998/9967")
        three = made("0 9999/7", "9973/17 1/9999", "9949/13 9999/7", "9999/7 1/9998")
        five = made("-9 9", "-8888/1111 -9", "-3/9999 9", "1/7 -9998/1111", "3 8998/1111", "9 -9")
        seven = made("0 1", "1/9 1/99", "2/9 9998/9999", "3/9 1/8", "4/9 1", "5/9 1/9999", "6/9 8887/8888", "1 0")
        for knots, many in ((two, 7), (three, 4), (five, 3), (seven, 2), (STAYS, 7)):
            start = perf_counter()
            told = rounds_of(knots, many)
            self.assertLess(perf_counter() - start, 5)
            self.assertEqual(told, lone_rounds(knots, many))
            self.assertTrue(all(is_row(way, many) for way in told))
            self.assertEqual(come_round(knots, many), round_spans(knots, many))

    def test_told_maps_go_on(self):
        five = turned(TENT, 5)
        self.assertEqual(come_round(five, 1), come_round(TENT, 5))
        self.assertEqual(len(rounds_of(five, 1)), 32)
        two = turned(TENT, 2)
        self.assertEqual(come_round(two, 3), come_round(TENT, 6))


if __name__ == "__main__":
    unittest.main()
