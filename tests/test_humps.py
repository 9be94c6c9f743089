"""[25], [26] and [27]: maps with one hump, the words of their points, and the points of a word."""

import unittest
from fractions import Fraction
from itertools import product

from bentstretch.errors import NoParting, NoPoint
from bentstretch.mix.humps import hump_word, points_with, turn_of, words_compared
from tests.helper import (
    grid, height, is_fraction, is_row, is_whole, lines_of, made, number, pair, points, some_humps, some_maps, with_more,
)

TENT = made("0 0", "1/2 1", "1 0")
LOW_TENT = made("0 0", "1/2 2/3", "1 0")
STAYS_AT_TOP = made("0 0", "1/2 1/2", "1 0")
ROUND_OF_TOP = made("0 1", "1 2", "2 0")
BENT = made("-2 -2", "-1 1", "0 2", "1/2 3/2", "2 -2")
NO_HUMP = (
    made("0 0", "1 1"), made("0 1/3", "1/2 1/2", "1 1"), made("0 1", "1 0"), made("0 1", "1/3 1/2", "1 0"), made("0 1/3", "1 1/3"),
    made("0 1", "1/2 0", "1 1"), made("0 0", "1/4 1", "1/2 0", "3/4 1", "1 0"), made("0 0", "1/3 1", "2/3 1", "1 0"),
    made("0 1/2", "1/3 1/2", "2/3 1", "1 0"), made("0 0", "1/3 1/2", "1/2 1/2", "2/3 1", "1 0"), made("0 0", "1/3 1", "2/3 0", "1 0"),
    made("0 0", "1/4 1", "1/2 1/2", "3/4 1/2", "1 0"), made("0 0", "1/3 1", "2/3 0", "1 1/9"), made("0 1", "1/4 0", "1/2 1", "1 0"),
    made("0 0", "1/4 1/2", "1/2 1/2", "1 1"), made("0 1", "1/2 0", "3/4 0", "1 1"),
)


def word_seen(knots, turn, at, many):
    """The word of a Fraction, taken without the program."""
    letters = ""
    for step in range(many):
        letters += "l" if at < turn else "r" if at > turn else "c"
        at = height(knots, at)
    return letters


def into(knots, at):
    """The Fractions whose value is a Fraction, of a map that is nowhere level."""
    told = set()
    for low, high, slope, nought in lines_of(knots):
        point = (at - nought) / slope
        if low <= point <= high:
            told.add(point)
    return told


def all_words(knots, turn, many):
    """For each word of so many letters that a point has, the ends of the stretch of these points."""
    layer = {turn}
    marks = {number(knots[0][0]), number(knots[-1][0])}
    for step in range(many):
        marks |= layer
        layer = {point for at in layer for point in into(knots, at)}
    ordered = sorted(marks)
    told = {}
    spots = [(at, at, at) for at in ordered]
    spots += [(low, (low + high) / 2, high) for low, high in zip(ordered, ordered[1:])]
    for low, amid, high in spots:
        word = word_seen(knots, turn, amid, many)
        least, most = told.get(word, (low, high))
        told[word] = (min(least, low), max(most, high))
    return told


class Turns(unittest.TestCase):

    def test_told(self):
        for knots, turn in (
            (TENT, "1/2"), (LOW_TENT, "1/2"), (STAYS_AT_TOP, "1/2"), (ROUND_OF_TOP, "1"), (BENT, "0"),
            (made("0 0", "1/4 1/2", "1/2 1", "1 0"), "1/2"), (made("0 0", "1/2 1", "3/4 1/2", "1 0"), "1/2"),
            (made("0 0", "1/4 1/4", "1/2 1", "3/4 3/4", "1 0"), "1/2"), (made("0 9998/9999", "9998/9999 1", "1 0"), "9998/9999"),
            (made("-3 -3", "-2 -5/2", "-1 -3"), "-2"),
        ):
            self.assertEqual(turn_of(knots), pair(turn), knots)

    def test_some(self):
        for knots, turn in some_humps(25, 60):
            self.assertEqual(turn_of(knots), turn)
            self.assertEqual(turn_of(with_more(knots)), turn)
            self.assertTrue(is_fraction(turn_of(knots)))

    def test_no_hump(self):
        for knots in NO_HUMP:
            self.assertRaises(NoParting, turn_of, knots)
            self.assertRaises(NoParting, turn_of, with_more(knots))

    def test_any_map_by_its_slopes(self):
        kinds = {True: 0, False: 0}
        for knots in some_maps(251, 400, 5, 4):
            signs = "".join("/" if line[2] > 0 else "\\" if line[2] < 0 else "_" for line in lines_of(knots))
            rises = len(signs) - len(signs.lstrip("/"))
            has = 0 < rises < len(signs) and set(signs[rises:]) == {"\\"}
            kinds[has] += 1
            if has:
                self.assertEqual(turn_of(knots), knots[rises][0])
            else:
                self.assertRaises(NoParting, turn_of, knots)
        self.assertGreater(min(kinds.values()), 20)


class Words(unittest.TestCase):

    def test_told(self):
        for knots, point, word in (
            (TENT, "0", "llllll"), (TENT, "1", "rlllll"), (TENT, "1/2", "crllll"), (TENT, "1/4", "lcrlll"), (TENT, "3/4", "rcrlll"),
            (TENT, "2/3", "rrrrrr"), (TENT, "1/3", "lrrrrr"), (TENT, "2/5", "lrlrlr"), (TENT, "2/7", "lrrlrr"), (TENT, "1/8", "llcrll"),
            (STAYS_AT_TOP, "1/2", "cccccc"), (STAYS_AT_TOP, "1/3", "llllll"), (STAYS_AT_TOP, "3/4", "rlllll"),
            (ROUND_OF_TOP, "0", "lcrlcr"), (ROUND_OF_TOP, "1", "crlcrl"), (ROUND_OF_TOP, "3/2", "rcrlcr"),
            (BENT, "-2", "llllll"), (BENT, "0", "crllll"), (TENT, "1/1000000000000", "llllll"),
        ):
            for many in range(7):
                told = hump_word(knots, pair(point), many)
                self.assertEqual(told, word[:many], (knots, point, many))
                self.assertIs(type(told), str)

    def test_against_values_taken_one_by_one(self):
        for knots, turn in some_humps(26, 40):
            for at in grid(knots, 9):
                for many in (0, 1, 2, 5, 12):
                    told = hump_word(knots, pair(at), many)
                    self.assertEqual(told, word_seen(knots, number(turn), at, many))
                    self.assertEqual(hump_word(with_more(knots), pair(at), many), told)

    def test_comes_to_the_turn_later(self):
        for knots, turn in some_humps(27, 20):
            layer = {number(turn)}
            for step in range(4):
                for at in layer:
                    told = hump_word(knots, pair(at), 6)
                    self.assertEqual(told[step], "c")
                    self.assertEqual(told, word_seen(knots, number(turn), at, 6))
                layer = {point for at in layer for point in into(knots, at)}

    def test_many_turns_and_figures(self):
        told = hump_word(TENT, pair(Fraction(1, 3 ** 60)), 40)
        self.assertEqual(told, word_seen(TENT, Fraction(1, 2), Fraction(1, 3 ** 60), 40))

    def test_refused(self):
        for many in (0, 1, 5):
            for point in ("-1/1000000000000", "1000000000001/1000000000000", "2", "-7"):
                self.assertRaises(NoPoint, hump_word, TENT, pair(point), many)
            for knots in NO_HUMP:
                for point in ("0", "1/2", "1", "2", "-1"):
                    self.assertRaises(NoParting, hump_word, knots, pair(point), many)


class Compared(unittest.TestCase):

    def test_told(self):
        for one, other, told in (
            ("", "", 0), ("", "l", 0), ("lrc", "lrc", 0), ("lr", "lrc", 0), ("rr", "rrrr", 0), ("l", "c", -1), ("c", "r", -1),
            ("l", "r", -1), ("ll", "lr", -1), ("lc", "lr", -1), ("rl", "rr", 1), ("rl", "rc", 1), ("rc", "rr", 1), ("rrl", "rrr", -1),
            ("rrc", "rrl", 1), ("cl", "cr", -1), ("crl", "crr", 1), ("cc", "cl", 1), ("rcl", "rcr", 1), ("lrl", "lrr", 1),
            ("rlrl", "rlrc", -1), ("rrrl", "rrrc", 1), ("lrrr", "rlll", -1), ("rrrrrrrrrrrl", "rrrrrrrrrrrr", 1),
            ("lrrrrrrrrrrl", "lrrrrrrrrrrr", -1), ("lcr", "lcl", 1), ("rlcrcl", "rlcrcr", -1), ("rlclcl", "rlclcr", 1),
        ):
            for first, second, sign in ((one, other, told), (other, one, -told)):
                self.assertEqual(words_compared(first, second), sign, (first, second))
                self.assertTrue(is_whole(words_compared(first, second)))

    def test_all_short_words(self):
        words = ["".join(word) for long in range(5) for word in product("lcr", repeat=long)]
        for one in words:
            for other in words:
                self.assertEqual(words_compared(one, other), self.seen(one, other), (one, other))

    def seen(self, one, other):
        alike = 0
        while alike < min(len(one), len(other)) and one[alike] == other[alike]:
            alike += 1
        if alike == min(len(one), len(other)):
            return 0
        sign = -1 if one[alike] + other[alike] in ("lc", "lr", "cr") else 1
        return sign * (-1) ** one[:alike].count("r")

    def test_lesser_words_are_lesser_points(self):
        seen = {-1: 0, 0: 0, 1: 0}
        for knots, turn in some_humps(28, 25):
            ats = grid(knots, 11)
            for many in (1, 3, 8):
                words = [hump_word(knots, pair(at), many) for at in ats]
                for one, first in zip(ats, words):
                    for other, second in zip(ats, words):
                        sign = words_compared(first, second)
                        seen[sign] += 1
                        self.assertEqual(sign == 0, first == second)
                        if sign:
                            self.assertIs(sign == -1, one < other, (knots, one, other))
        self.assertGreater(min(seen.values()), 1000)


class Points(unittest.TestCase):

    def test_told(self):
        for knots, word, ends in (
            (TENT, "", "0 1"), (TENT, "l", "0 1/2"), (TENT, "c", "1/2 1/2"), (TENT, "r", "1/2 1"), (TENT, "lr", "1/4 1/2"),
            (TENT, "lc", "1/4 1/4"), (TENT, "rc", "3/4 3/4"), (TENT, "rcrl", "3/4 3/4"), (TENT, "cr", "1/2 1/2"), (TENT, "cl", None),
            (TENT, "cc", None), (TENT, "lcl", None), (TENT, "lcrr", None), (TENT, "rrr", "5/8 3/4"), (TENT, "rr", "1/2 3/4"),
            (TENT, "llllllllllll", "0 1/4096"), (STAYS_AT_TOP, "c", "1/2 1/2"), (STAYS_AT_TOP, "cccc", "1/2 1/2"),
            (STAYS_AT_TOP, "ll", "0 1/2"), (STAYS_AT_TOP, "lr", None), (STAYS_AT_TOP, "lc", None), (STAYS_AT_TOP, "rl", "1/2 1"),
            (STAYS_AT_TOP, "rr", None), (STAYS_AT_TOP, "rc", None), (STAYS_AT_TOP, "cr", None), (ROUND_OF_TOP, "lcrl", "0 0"),
            (ROUND_OF_TOP, "ll", None), (ROUND_OF_TOP, "lr", "0 1"), (ROUND_OF_TOP, "lc", "0 0"), (ROUND_OF_TOP, "lrr", "0 1/2"),
            (LOW_TENT, "rrrr", "17/32 77/128"), (LOW_TENT, "rr", "1/2 5/8"),
            # The only point that might have it comes to the turn itself.
            (made("0 0", "1/2 1/2", "1 1/4"), "lr", None), (made("0 1/4", "1/4 1/3", "1 0"), "ll", None), (made("0 1", "1 2", "2 1"), "ll", None),
        ):
            self.assertEqual(self.ends(knots, word), None if ends is None else points(*ends.split()), (knots, word))

    def ends(self, knots, word):
        """The ends of what is told, the third one looked at."""
        told = points_with(knots, word)
        if told is None:
            return None
        self.assertTrue(is_row(told, 3))
        low, high, one = told
        self.assertTrue(number(low) <= number(one) <= number(high))
        self.assertEqual(word_seen(knots, number(turn_of(knots)), number(one), len(word)), word)
        self.assertEqual(hump_word(knots, one, len(word)), word)
        return (low, high)

    def test_each_word(self):
        single = wide = none = 0
        for knots, turn in some_humps(29, 60):
            for many in range(1, 5):
                seen = all_words(knots, number(turn), many)
                for word in map("".join, product("lcr", repeat=many)):
                    ends = seen.get(word)
                    told = self.ends(knots, word)
                    self.assertEqual(told, None if ends is None else (pair(ends[0]), pair(ends[1])), (knots, word))
                    none += told is None
                    single += told is not None and told[0] == told[1]
                    wide += told is not None and told[0] != told[1]
        self.assertGreater(min(none, single, wide), 300)

    def test_words_of_points_to_twelve_letters(self):
        for knots, turn in some_humps(30, 25):
            for at in grid(knots, 5):
                for many in (5, 8, 12):
                    word = word_seen(knots, number(turn), at, many)
                    low, high = self.ends(knots, word)
                    self.assertTrue(number(low) <= at <= number(high))
                    self.assertEqual(self.ends(with_more(knots), word), (low, high))

    def test_ends_that_are_none_of_them(self):
        low, high, one = points_with(TENT, "lrr")
        self.assertEqual((low, high), points("1/4", "3/8"))
        self.assertEqual((hump_word(TENT, low, 3), hump_word(TENT, high, 3)), ("lcr", "lrc"))
        self.assertEqual(hump_word(TENT, one, 3), "lrr")

    def test_empty_word(self):
        for knots, turn in some_humps(31, 10):
            low, high = knots[0][0], knots[-1][0]
            self.assertEqual(points_with(knots, ""), (low, high, low))

    def test_refused(self):
        for knots in NO_HUMP:
            for word in ("", "l", "c", "cc", "rrlrcr"):
                self.assertRaises(NoParting, points_with, knots, word)


if __name__ == "__main__":
    unittest.main()
