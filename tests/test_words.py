"""[21] and [22]: words of parts, their stretches, and the points that they bring."""

import unittest
from fractions import Fraction
from itertools import product

from bentstretch.errors import NoLoop, NoParting, NoPoint
from bentstretch.parts.partings import least_parting, table_of
from bentstretch.parts.words import how_many_words, point_of, stretch_of, word_comes
from tests.helper import (
    is_fraction, is_row, is_whole, led, lines_of, made, number, on_through, pair, points, some_maps, square, stays_on,
    zigzag,
)

TENT = made("0 0", "1/2 1", "1 0")
STAYS = made("0 0", "1 1")
ABOUT = made("0 1", "1 0")
THREE = made("0 1", "1 2", "2 0")
STEPS = made("0 4", "1 1", "2 1", "3 3", "4 0")
LEVEL = made("0 1/3", "1 1/3")
HALVES = points("0", "1/2", "1")
ROUND = made("0 1", "11 12", "12 0")
NOT_FITTING = (
    (TENT, ""), (TENT, "0"), (TENT, "0 1"), (TENT, "0 1/3 1/2 1"), (TENT, "0 1/2"), (TENT, "1 1/2 0"), (LEVEL, "0 1"),
    (STAYS, "0 1 2"), (TENT, "0 1/2 1/2 1"),
)


def letters(text):
    return tuple(int(sign) for sign in text)


def parts_of(knots, parting):
    """For each part (low, high, slope, value at 0), as Fractions."""
    return [
        (low, high) + next(line[2:] for line in lines_of(knots) if line[0] <= (low + high) / 2 <= line[1])
        for low, high in zip([number(point) for point in parting], [number(point) for point in parting[1:]])
    ]


def way_through(knots, parting, word):
    """All turns of a word as one line (low, high, slope, value at 0), or None where no point goes through it."""
    parts = parts_of(knots, parting)
    way = (parts[0][0], parts[-1][1], Fraction(1), Fraction(0))
    for letter in word:
        found = on_through(way, parts[letter])
        if not found:
            return None
        way = found[0]
    return way


def comes_seen(table, word):
    return not any(table[one][other] == 0 for one, other in zip(word, word[1:]))


def some_partings():
    told = [(TENT, HALVES), (STEPS, least_parting(STEPS, 13)), (THREE, points("0", "1", "2"))]
    for knots in some_maps(21, 80, 6, 4):
        parting = least_parting(knots, 13)
        if parting is not None:
            told.append((knots, parting))
    return told


class Comes(unittest.TestCase):

    def test_told(self):
        golden = ((1, 1), (1, 0))
        great = ((0, 9), (2, 0))
        for table, word, told in (
            (golden, "", True), (golden, "0", True), (golden, "1", True), (golden, "00", True), (golden, "11", False),
            (golden, "0101", True), (golden, "01011", False), (golden, "110", False), (great, "0101", True), (great, "00", False),
            (great, "1", True), (((0,),), "", True), (((0,),), "0", True), (((0,),), "00", False), (((7,),), "000000000000", True),
        ):
            self.assertIs(word_comes(table, letters(word)), told, (table, word))

    def test_each_word_of_a_table(self):
        for seed in range(12):
            table = square(seed, 1 + seed % 4, 2)
            for long in range(5):
                for word in product(range(len(table)), repeat=long):
                    self.assertIs(word_comes(table, word), comes_seen(table, word))


class HowMany(unittest.TestCase):

    def test_told(self):
        for table, told in (
            (((1, 1), (1, 0)), [1, 2, 3, 5, 8, 13, 21, 34, 55, 89, 144, 233, 377]),
            (((9, 9), (9, 0)), [1, 2, 3, 5, 8, 13, 21, 34, 55, 89, 144, 233, 377]),
            (((0,),), [1, 1] + [0] * 11), (((5,),), [1] * 13), (((0, 1), (0, 0)), [1, 2, 1] + [0] * 10),
            (((1, 1), (1, 1)), [1] + [2 ** long for long in range(1, 13)]),
            (((0, 0, 0),) * 3, [1, 3] + [0] * 11),
        ):
            for long, many in enumerate(told):
                self.assertEqual(how_many_words(table, long), many, (table, long))
                self.assertTrue(is_whole(how_many_words(table, long)))

    def test_against_each_word(self):
        for seed in range(16):
            table = square(seed, 1 + seed % 5, 2)
            for long in range(5):
                words = [word for word in product(range(len(table)), repeat=long) if comes_seen(table, word)]
                self.assertEqual(how_many_words(table, long), len(words), (table, long))

    def test_twelve_rows_twelve_letters(self):
        self.assertEqual(how_many_words(((9,) * 12,) * 12, 12), 12 ** 12)


class Stretches(unittest.TestCase):

    def test_told(self):
        for knots, parting, word, told in (
            (TENT, "0 1/2 1", "", "0 1"), (TENT, "0 1/2 1", "0", "0 1/2"), (TENT, "0 1/2 1", "1", "1/2 1"),
            (TENT, "0 1/2 1", "01", "1/4 1/2"), (TENT, "0 1/2 1", "11", "1/2 3/4"), (TENT, "0 1/2 1", "110", "1/2 5/8"),
            (TENT, "0 1/2 1", "000000000000", "0 1/4096"), (STAYS, "0 1/3 1", "11111", "1/3 1"), (STAYS, "0 1/3 1", "", "0 1"),
            # These parts meet in a single point, and the word does not come.
            (STAYS, "0 1/3 1", "01", None), (ABOUT, "0 1/3 2/3 1", "00", None), (ABOUT, "0 1/3 2/3 1", "01", None),
            (ABOUT, "0 1/3 2/3 1", "020202", "0 1/3"), (ABOUT, "0 1/3 2/3 1", "11", "1/3 2/3"), (THREE, "0 1 2", "00", None),
            (THREE, "0 1 2", "0110", "0 1/4"), (THREE, "0 1 2", "1101", "1 5/4"),
            # A level part: a word may end there, but no letter comes behind it.
            (STEPS, "0 1 2 3 4", "1", "1 2"), (STEPS, "0 1 2 3 4", "01", "2/3 1"), (STEPS, "0 1 2 3 4", "11", None),
            (STEPS, "0 1 2 3 4", "10", None), (STEPS, "0 1 2 3 4", "21", "2 5/2"), (LEVEL, "0 1/3 1", "0", "0 1/3"),
            (LEVEL, "0 1/3 1", "1", "1/3 1"), (LEVEL, "0 1/3 1", "10", None), (LEVEL, "0 1/3 1", "", "0 1"),
        ):
            want = None if told is None else points(*told.split())
            self.assertEqual(stretch_of(knots, points(*parting.split()), letters(word)), want, (knots, parting, word))

    def test_against_ways_through_the_parts(self):
        some = {True: 0, False: 0}
        for knots, parting in some_partings():
            table = table_of(knots, parting)
            for long in range(1, 5 if len(table) < 5 else 4):
                for word in product(range(len(table)), repeat=long):
                    told = stretch_of(knots, parting, word)
                    if not comes_seen(table, word):
                        self.assertIsNone(told, (knots, parting, word))
                        continue
                    self.assertTrue(is_row(told, 2))
                    self.assertEqual(told, tuple(pair(end) for end in way_through(knots, parting, word)[:2]))
                    some[len(word) > 1] += 1
        self.assertGreater(min(some.values()), 60)

    def test_stretches_of_all_words_are_the_whole(self):
        for long in range(1, 7):
            words = list(product(range(2), repeat=long))
            told = sorted(tuple(number(end) for end in stretch_of(TENT, HALVES, word)) for word in words)
            self.assertEqual((told[0][0], told[-1][1]), (0, 1))
            self.assertTrue(all(one[1] == other[0] for one, other in zip(told, told[1:])))

    def test_twelve_letters_of_twelve_parts(self):
        parting = least_parting(ROUND, 13)
        self.assertEqual(stretch_of(ROUND, parting, tuple(range(12))), points("0", "1"))
        self.assertEqual(stretch_of(ROUND, parting, (11,) * 12), self.pair_of(ROUND, parting, (11,) * 12))

    def pair_of(self, knots, parting, word):
        return tuple(pair(end) for end in way_through(knots, parting, word)[:2])

    def test_refused(self):
        for knots, parting in NOT_FITTING:
            for word in ("", "0", "11", "01"):
                with self.assertRaises(NoParting) as caught:
                    stretch_of(knots, points(*parting.split()), letters(word))
                self.assertNotIsInstance(caught.exception, (NoPoint, NoLoop))


class Points(unittest.TestCase):

    def test_told(self):
        for knots, parting, word, told in (
            (TENT, "0 1/2 1", "0", "0"), (TENT, "0 1/2 1", "1", "2/3"), (TENT, "0 1/2 1", "01", "2/5"),
            (TENT, "0 1/2 1", "10", "4/5"), (TENT, "0 1/2 1", "00", "0"), (TENT, "0 1/2 1", "11", "2/3"),
            (TENT, "0 1/2 1", "001", "2/9"), (TENT, "0 1/2 1", "011", "2/7"), (THREE, "0 1 2", "1", "4/3"),
            (THREE, "0 1 2", "01", "2/3"), (THREE, "0 1 2", "110", "1"), (THREE, "0 1 2", "101", "2"),
            # Where a whole stretch comes round, its low end is the least.
            (STAYS, "0 1", "0", "0"), (STAYS, "0 1/3 1", "1", "1/3"), (STAYS, "0 1/3 1", "111", "1/3"),
            (ABOUT, "0 1/3 2/3 1", "20", "2/3"), (ABOUT, "0 1/3 2/3 1", "02", "0"), (ABOUT, "0 1/3 2/3 1", "11", "1/3"),
            (ABOUT, "0 1/3 2/3 1", "1", "1/2"), (STEPS, "0 1 2 3 4", "2", "3"), (STEPS, "0 1 2 3 4", "03", "0"),
        ):
            want = pair(told)
            self.assertEqual(point_of(knots, points(*parting.split()), letters(word)), want, (knots, parting, word))

    def test_against_ways_through_the_parts(self):
        some = {True: 0, False: 0}
        for knots, parting in some_partings():
            table = table_of(knots, parting)
            for long in range(1, 5 if len(table) < 5 else 4):
                for word in product(range(len(table)), repeat=long):
                    comes = comes_seen(table, word + word[:1])
                    some[comes] += 1
                    if not comes:
                        with self.assertRaises(NoLoop):
                            point_of(knots, parting, word)
                        continue
                    told = point_of(knots, parting, word)
                    self.assertTrue(is_fraction(told))
                    self.assertEqual(told, pair(stays_on(way_through(knots, parting, word))[0][0]), (knots, parting, word))
                    self.in_parts(knots, parting, word, number(told))
        self.assertGreater(min(some.values()), 200)

    def in_parts(self, knots, parting, word, at):
        for turn, letter in enumerate(word):
            self.assertTrue(number(parting[letter]) <= led(knots, at, turn) <= number(parting[letter + 1]))
        self.assertEqual(led(knots, at, len(word)), at)

    def test_twelve_letters(self):
        parting = least_parting(ROUND, 13)
        for word in (tuple(range(12)), (11,) * 12, (0, 1, 2, 3, 4, 5, 6, 7, 8, 9, 10, 11)[::1], (10, 11) * 6):
            self.in_parts(ROUND, parting, word, number(point_of(ROUND, parting, word)))
        full = zigzag(8)
        eighths = least_parting(full, 13)
        for word in ((0, 6, 1, 5, 2, 4, 3, 3, 6, 0, 0, 1), (6,) * 12):
            self.in_parts(full, eighths, word, number(point_of(full, eighths, word)))

    def test_no_loop(self):
        for knots, parting, word in (
            (TENT, "0 1/2 1", ""), (STAYS, "0 1", ""), (STAYS, "0 1/3 1", "01"), (STAYS, "0 1/3 1", "10"), (THREE, "0 1 2", "0"),
            (THREE, "0 1 2", "00"), (THREE, "0 1 2", "010"), (ABOUT, "0 1/3 2/3 1", "0"), (ABOUT, "0 1/3 2/3 1", "020"),
            (STEPS, "0 1 2 3 4", "1"), (STEPS, "0 1 2 3 4", "01"), (STEPS, "0 1 2 3 4", "10"), (LEVEL, "0 1/3 1", "0"),
            (LEVEL, "0 1/3 1", "1"), (LEVEL, "0 1/3 1", ""),
        ):
            with self.assertRaises(NoLoop, msg=(knots, parting, word)) as caught:
                point_of(knots, points(*parting.split()), letters(word))
            self.assertNotIsInstance(caught.exception, (NoPoint, NoParting))

    def test_no_parting_goes_first(self):
        for knots, parting in NOT_FITTING:
            for word in ("", "0", "11", "01"):
                with self.assertRaises(NoParting) as caught:
                    point_of(knots, points(*parting.split()), letters(word))
                self.assertNotIsInstance(caught.exception, (NoPoint, NoLoop))


if __name__ == "__main__":
    unittest.main()
