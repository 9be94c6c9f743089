"""[35] and [36]: where a stretch goes, and what a map is laid over by many turns."""

import unittest
from fractions import Fraction

from bentstretch.errors import NoPoint
from bentstretch.rounds.forward import all_after, laid_by, way_forward
from tests.helper import are_rows, grid, height, is_whole, made, number, pair, some_maps, spans

TENT = made("0 0", "1/2 1", "1 0")
STAYS = made("0 0", "1 1")
ABOUT = made("0 1", "1 0")
LEVEL = made("0 1/3", "1 1/3")
HALF = made("0 0", "1 1/2")
LOW_TENT = made("0 0", "1/2 2/3", "1 0")
THREE = made("0 1", "1 2", "2 0")
SHRINKS = made("0 1/4", "1/2 1/2", "1 3/4")
FALLS_IN = made("0 1", "1 1/2")
NO_STRETCH = (("-1", "1/2"), ("1/2", "2"), ("-1", "2"), ("3/4", "1/4"), ("1", "0"), ("2", "3"), ("-1/1000000000000", "0"), ("2", "2"))


def on(knots, low, high):
    """What a stretch of Fractions is laid over, taken without the program."""
    values = [height(knots, at) for at in [low, high] + [number(at) for at, to in knots if low <= number(at) <= high]]
    return min(values), max(values)


def way_seen(knots, low, high, many):
    way = [(low, high)]
    while len(way) <= many:
        ahead = on(knots, *way[-1])
        if ahead in way:
            return ("round", told(way), way.index(ahead))
        way.append(ahead)
    return ("open", told(way))


def told(way):
    return tuple((pair(low), pair(high)) for low, high in way)


class Forward(unittest.TestCase):

    def test_round(self):
        for knots, ends, way, ahead in (
            (TENT, "0 1", ["0 1"], 0), (TENT, "0 1/4", ["0 1/4", "0 1/2", "0 1"], 2), (TENT, "1/4 1/2", ["1/4 1/2", "1/2 1", "0 1"], 2),
            (TENT, "2/3 2/3", ["2/3"], 0), (TENT, "2/5 2/5", ["2/5", "4/5"], 0), (TENT, "1/5 1/5", ["1/5", "2/5", "4/5"], 1),
            (TENT, "1/2 1/2", ["1/2", "1", "0"], 2), (STAYS, "1/7 2/7", ["1/7 2/7"], 0), (ABOUT, "0 1/3", ["0 1/3", "2/3 1"], 0),
            (ABOUT, "1/3 2/3", ["1/3 2/3"], 0), (LEVEL, "0 1", ["0 1", "1/3"], 1), (LEVEL, "1/3 1/3", ["1/3"], 0), (TENT, "1/3 2/3", ["1/3 2/3", "2/3 1", "0 2/3", "0 1"], 3),
            (LOW_TENT, "0 1", ["0 1", "0 2/3"], 1), (THREE, "0 1", ["0 1", "1 2", "0 2"], 2),
        ):
            low, high = [pair(word) for word in ends.split()]
            for many in (len(way), len(way) + 1, 40):
                asked = way_forward(knots, low, high, many)
                self.assertEqual(asked, ("round", spans(*way), ahead), (knots, ends, many))
                self.assertTrue(type(asked) is tuple and are_rows(asked[1], 2) and is_whole(asked[2]))
            for many in range(len(way)):
                asked = way_forward(knots, low, high, many)
                self.assertEqual(asked, ("open", spans(*way[:many + 1])), (knots, ends, many))

    def test_open(self):
        for many in range(41):
            asked = way_forward(HALF, pair(0), pair(1), many)
            self.assertEqual(asked, ("open", told([(Fraction(0), Fraction(1, 2 ** turn)) for turn in range(many + 1)])))
        self.assertEqual(len(way_forward(HALF, pair("1/3"), pair("1/3"), 7)[1]), 8)

    def test_against_values_taken_one_by_one(self):
        kinds = {"round": 0, "open": 0}
        later = 0
        for knots in some_maps(35, 20, 6, 4) + some_maps(351, 15, 3, 2):
            ats = grid(knots, 5)
            whole = (ats[0], ats[-1])
            for low in ats:
                for high in ats:
                    if low > high:
                        continue
                    for many in (0, 1, 2, 4, 9):
                        seen = way_seen(knots, low, high, many)
                        self.assertEqual(way_forward(knots, pair(low), pair(high), many), seen, (knots, low, high, many))
                        kinds[seen[0]] += 1
                        later += seen[0] == "round" and 0 < seen[2] < len(seen[1]) - 1
                        after = all_after(knots, pair(low), pair(high), many)
                        self.assertEqual(after, self.after(knots, low, high, whole, many), (knots, low, high, many))
        self.assertGreater(min(kinds.values()), 400)
        self.assertGreater(later, 5)

    def after(self, knots, low, high, whole, many):
        for turn in range(many + 1):
            if (low, high) == whole:
                return turn
            low, high = on(knots, low, high)
        return None

    def test_many_figures(self):
        knots = made("0 1/9999", "1234/9999 9998/9999", "5001/9998 7/9997", "1 8887/9991")
        low, high = Fraction(123456789, 999999999999), Fraction(123456790, 999999999999)
        self.assertEqual(way_forward(knots, pair(low), pair(high), 40), way_seen(knots, low, high, 40))

    def test_refused(self):
        for low, high in NO_STRETCH:
            for many in (0, 1, 40):
                self.assertRaises(NoPoint, way_forward, TENT, pair(low), pair(high), many)
                self.assertRaises(NoPoint, all_after, TENT, pair(low), pair(high), many)


class AllAfter(unittest.TestCase):

    def test_told(self):
        for knots, ends, many, after in (
            (TENT, "0 1", 0, 0), (TENT, "0 1", 40, 0), (TENT, "0 1/4", 0, None), (TENT, "0 1/4", 1, None), (TENT, "0 1/4", 2, 2),
            (TENT, "0 1/4", 3, 2), (TENT, "0 1/4", 40, 2), (TENT, "2/3 2/3", 40, None), (TENT, "0 1/1024", 10, 10), (TENT, "0 1/1024", 9, None),
            (STAYS, "0 1/2", 40, None), (STAYS, "0 1", 3, 0), (LEVEL, "0 1", 9, 0), (LEVEL, "0 1/2", 9, None), (HALF, "0 1/2", 40, None),
            (HALF, "0 1", 40, 0), (ABOUT, "0 1/3", 40, None), (THREE, "0 1", 2, 2), (THREE, "1 2", 1, 1), (THREE, "1 2", 0, None), (TENT, "1/3 2/3", 40, 3),
            (LOW_TENT, "0 1/2", 40, None), (TENT, "1/3 2/3", 2, None), (TENT, "1/3 2/3", 3, 3),
        ):
            low, high = [pair(word) for word in ends.split()]
            asked = all_after(knots, low, high, many)
            self.assertEqual(asked, after, (knots, ends, many))
            self.assertTrue(asked is None or is_whole(asked))

    def test_its_width_alone_is_not_all(self):
        # As long as the whole stretch it is only where it is the whole one.
        knots = made("0 0", "1/2 1/2", "3/4 1", "1 1/2")
        self.assertIsNone(all_after(knots, pair("1/2"), pair("1"), 40))
        self.assertEqual(all_after(knots, pair("0"), pair("1"), 40), 0)
        self.assertEqual(all_after(knots, pair("0"), pair("3/4"), 40), 1)


class LaidBy(unittest.TestCase):

    def test_told(self):
        for knots, row in (
            (TENT, ["0 1"]), (STAYS, ["0 1"]), (ABOUT, ["0 1"]), (LEVEL, ["0 1", "1/3"]), (LOW_TENT, ["0 1", "0 2/3"]),
            (THREE, ["0 2"]), (made("0 0", "1 0"), ["0 1", "0"]), (made("0 1/2", "1/2 1/2", "1 0"), ["0 1", "0 1/2", "1/2"]),
            (made("0 1", "1 3", "2 2", "3 1"), ["0 3", "1 3"]), (made("0 1", "1 2", "2 3", "3 3"), ["0 3", "1 3", "2 3", "3"]),
        ):
            for many in range(6):
                asked = laid_by(knots, many)
                self.assertEqual(asked, spans(*row[:many + 1]), (knots, many))
                self.assertTrue(are_rows(asked, 2))
            self.assertEqual(laid_by(knots, 40), spans(*row))

    def test_not_within_so_many(self):
        for many in range(41):
            self.assertEqual(laid_by(HALF, many), told([(Fraction(0), Fraction(1, 2 ** turn)) for turn in range(many + 1)]))
            self.assertEqual(len(laid_by(SHRINKS, many)), many + 1)
            self.assertEqual(len(laid_by(FALLS_IN, many)), many + 1)

    def test_against_values_taken_one_by_one(self):
        seen = {"at once": 0, "later": 0, "not": 0}
        for knots in some_maps(36, 80, 6, 4) + some_maps(361, 80, 3, 3):
            for many in (0, 1, 2, 5, 12):
                row = [(number(knots[0][0]), number(knots[-1][0]))]
                while len(row) <= many and on(knots, *row[-1]) != row[-1]:
                    row.append(on(knots, *row[-1]))
                asked = laid_by(knots, many)
                self.assertEqual(asked, told(row), (knots, many))
                self.assertEqual(len(set(asked)), len(asked))
                for one, other in zip(row, row[1:]):
                    self.assertTrue(one[0] <= other[0] and other[1] <= one[1])
                same = on(knots, *row[-1]) == row[-1]
                seen["not" if not same else "at once" if len(row) == 1 else "later"] += 1
        self.assertGreater(min(seen.values()), 50)


if __name__ == "__main__":
    unittest.main()
