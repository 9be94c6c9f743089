"""[17]: the order of lengths, and the lengths that points of a map have."""

import unittest
from time import perf_counter

from bentstretch.maps.turns import turned
from bentstretch.rounds.lengths import brings, lengths_of
from bentstretch.rounds.rounds import come_round
from tests.helper import fewest_lines, height, is_whole, made, number, some_maps, zigzag

TENT = made("0 0", "1/2 1", "1 0")
STAYS = made("0 0", "1 1")
ABOUT = made("0 1", "1 0")
LEVEL = made("0 1/3", "1 1/3")
THREE = made("0 1", "1 2", "2 0")
# Length 5 without 3, as in the oldest such map.
FIVE = made("0 2", "1 4", "2 3", "3 1", "4 0")
# Two stretches that change places, and a point amid them that stays.
CHANGED = made("0 2", "1 3", "2 0", "3 1")
# Two stretches that change places, one of them laid about: each second time all is turned about.
FOURS = made("0 3", "1 2", "2 0", "3 1")


def order_to(most):
    """All lengths to most, as the document lists them."""
    told = []
    twos = 1
    while twos <= most:
        told += [twos * odd for odd in range(3, most // twos + 1, 2)]
        twos *= 2
    return told + [2 ** power for power in range(most.bit_length(), -1, -1) if 2 ** power <= most]


def lengths_seen(knots, most):
    """The lengths of points told to come round: both ends, midway and a third of each pair."""
    told = set()
    for many in range(1, most + 1):
        for low, high in [(number(low), number(high)) for low, high in come_round(knots, many)]:
            for start in {low, high, (low + high) / 2, (2 * low + high) / 3}:
                at, turns = height(knots, start), 1
                while at != start:
                    at, turns = height(knots, at), turns + 1
                told.add(turns)
    return tuple(sorted(told))


class Order(unittest.TestCase):

    def test_as_listed(self):
        order = order_to(70)
        self.assertEqual(sorted(order), list(range(1, 71)))
        self.assertEqual(order[:3] + order[-4:], [3, 5, 7, 8, 4, 2, 1])
        for place, one in enumerate(order):
            for later, other in enumerate(order):
                self.assertIs(brings(one, other), place <= later, (one, other))

    def test_told(self):
        for one, other, told in (
            (3, 5, True), (5, 3, False), (3, 1, True), (1, 3, False), (1, 1, True), (2, 1, True), (1, 2, False),
            (4, 2, True), (2, 4, False), (7, 6, True), (6, 7, False), (6, 10, True), (10, 12, True), (12, 10, False),
            (6, 4, True), (4, 6, False), (12, 8, True), (8, 12, False), (9, 9, True), (12, 12, True), (8, 8, True),
            (999, 6, True), (6, 999, False), (1024, 512, True), (512, 1024, False), (3072, 1024, True),
        ):
            self.assertIs(brings(one, other), told, (one, other))

    def test_great_lengths(self):
        odd = 10 ** 300 + 1
        power = 2 ** 1000
        self.assertIs(brings(odd, odd + 2), True)
        self.assertIs(brings(odd + 2, odd), False)
        self.assertIs(brings(odd, 2 * 3), True)
        self.assertIs(brings(3 * power, power), True)
        self.assertIs(brings(power, 3 * power), False)
        self.assertIs(brings(odd * power, 3 * power * 2), True)
        self.assertIs(brings(3 * power * 2, odd * power), False)
        self.assertIs(brings(power, power // 2), True)
        self.assertIs(brings(power // 2, power), False)
        self.assertIs(brings(power, power), True)


class Lengths(unittest.TestCase):

    def test_told(self):
        for knots, most, told in (
            (TENT, 1, (1,)), (TENT, 7, (1, 2, 3, 4, 5, 6, 7)), (STAYS, 7, (1,)), (ABOUT, 1, (1,)), (ABOUT, 2, (1, 2)),
            (ABOUT, 7, (1, 2)), (LEVEL, 7, (1,)), (THREE, 7, (1, 2, 3, 4, 5, 6, 7)), (FIVE, 3, (1, 2)),
            (CHANGED, 4, (1, 2)), (FOURS, 1, (1,)), (FOURS, 2, (1, 2)), (FOURS, 4, (1, 2, 4)), (zigzag(4), 4, (1, 2, 3, 4)),
            (made("0 0", "1/2 1/2", "1 0"), 7, (1,)), (made("0 2/5", "1/2 4/5", "1 2/5"), 7, (1,)),
            (made("0 3/4", "1/2 3/4", "1 0"), 7, (1, 2)), (TENT, 0, ()),
        ):
            self.assertEqual(lengths_of(knots, most), told, (knots, most))

    def test_a_told_map_goes_on(self):
        # Points of length 4 of the map stay in the map turned four times.
        self.assertEqual(lengths_of(turned(TENT, 5), 1), (1,))
        self.assertEqual(lengths_of(turned(ABOUT, 2), 7), (1,))
        self.assertEqual(lengths_of(turned(FOURS, 2), 2), (1, 2))

    def test_against_points_taken_one_by_one(self):
        unlike = set()
        for knots in some_maps(17, 60, 6, 4) + some_maps(171, 80, 3, 4) + some_maps(172, 20, 8):
            pieces = len(fewest_lines(knots))
            most = max(many for many in range(1, 8) if pieces ** many <= 130)
            told = lengths_of(knots, most)
            self.assertTrue(type(told) is tuple and all(is_whole(many) for many in told))
            self.assertEqual(told, lengths_seen(knots, most), knots)
            for one in told:
                self.assertLessEqual({other for other in range(1, most + 1) if brings(one, other)}, set(told))
            unlike.add(told)
        self.assertGreater(len(unlike), 5)

    def test_as_many_turns_as_let_within_seconds(self):
        two = made("1/9973 9999/9967", "5000/9949 1/9973", "9999/9967 9998/9967")
        three = made("0 9999/7", "9973/17 1/9999", "9949/13 9999/7", "9999/7 1/9998")
        seven = made("0 1", "1/9 1/99", "2/9 9998/9999", "3/9 1/8", "4/9 1", "5/9 1/9999", "6/9 8887/8888", "1 0")
        for knots, most in ((two, 7), (three, 4), (seven, 2), (ABOUT, 7)):
            start = perf_counter()
            told = lengths_of(knots, most)
            self.assertLess(perf_counter() - start, 5)
            self.assertEqual(told, lengths_seen(knots, most))


if __name__ == "__main__":
    unittest.main()
