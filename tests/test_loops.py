"""[16] and [18]: covering, loops and the points that they bring, and papers of a round."""

import unittest
from fractions import Fraction
from itertools import product
from random import Random
from time import perf_counter

from bentstretch.errors import NoLoop, NoParting, NoPoint
from bentstretch.maps.turns import turned
from bentstretch.rounds.loops import covers, loop_for, loop_point, loop_shown
from bentstretch.rounds.rounds import rounds_of
from tests.helper import (
    fewest_lines, grid, height, is_fraction, is_row, led, made, number, on_through, pair, points, some_maps, spans,
    stays_on, zigzag,
)

TENT = made("0 0", "1/2 1", "1 0")
STAYS = made("0 0", "1 1")
ABOUT = made("0 1", "1 0")
LEVEL = made("0 1/3", "1 1/3")
THREE = made("0 1", "1 2", "2 0")
FOUR = made("0 2", "1 3", "2 1", "3 0")
LOW, HIGH = ("0", "1/2"), ("1/2", "1")


def span(low, high):
    return (pair(low), pair(high))


def numbers(stretch):
    return tuple(number(end) for end in stretch)


def covered(knots, one, other):
    """Covering by values taken one by one, of stretches as Fractions."""
    ends = number(knots[0][0]), number(knots[-1][0])
    if not ends[0] <= one[0] <= one[1] <= ends[1] or other[0] > other[1]:
        return False
    ats = list(one) + [number(knot[0]) for knot in knots if one[0] <= number(knot[0]) <= one[1]]
    worths = [height(knots, at) for at in ats]
    return min(worths) <= other[0] and other[1] <= max(worths)


def is_loop_seen(knots, loop):
    rows = [numbers(stretch) for stretch in loop]
    return bool(rows) and all(covered(knots, one, other) for one, other in zip(rows, rows[1:] + rows[:1]))


def least_seen(knots, loop):
    """The least point of a loop, by each way through the pieces on its own."""
    lines = fewest_lines(knots)
    low, high = numbers(loop[0])
    ways = [(low, high, Fraction(1), Fraction(0))]
    for stretch in loop:
        # To a stretch and stay there, then through each piece.
        ways = [cut for way in ways for cut in on_through(way, numbers(stretch) + (Fraction(1), Fraction(0)))]
        ways = [on for way in ways for line in lines for on in on_through(way, line)]
    return min(low for way in ways for low, high in stays_on(way))


class Covers(unittest.TestCase):

    def test_told(self):
        for knots, one, other, told in (
            (TENT, LOW, ("0", "1"), True), (TENT, HIGH, ("0", "1"), True), (TENT, ("1/4", "3/4"), ("1/2", "1"), True),
            (TENT, ("1/4", "3/4"), ("499/1000", "1"), False), (TENT, ("1/4", "1/3"), ("1/2", "2/3"), True),
            (TENT, ("1/4", "1/3"), ("1/2", "667/1000"), False), (TENT, ("1/4", "1/3"), ("3/5", "3/5"), True),
            (TENT, ("1/3", "1/3"), ("2/3", "2/3"), True), (TENT, ("1/3", "1/3"), ("1/3", "1/3"), False),
            (TENT, ("1/3", "1/3"), ("2/3", "3/4"), False), (TENT, ("0", "1"), ("0", "1"), True),
            (LEVEL, ("0", "1"), ("1/3", "1/3"), True), (LEVEL, ("0", "1"), ("1/3", "1/2"), False),
            (STAYS, ("1/3", "2/3"), ("1/3", "2/3"), True), (STAYS, ("1/3", "2/3"), ("1/3", "3/4"), False),
            # Beyond the map's stretch: the first is none within it, the second is not covered.
            (TENT, ("-1", "1"), ("0", "1"), False), (TENT, ("0", "2"), ("0", "1"), False), (TENT, ("-1", "2"), LOW, False),
            (TENT, ("2", "3"), LOW, False), (TENT, ("0", "1"), ("-1/1000", "1"), False), (TENT, ("0", "1"), ("0", "2"), False),
            (TENT, ("0", "1"), ("2", "3"), False), (TENT, ("0", "1"), ("-1", "-1"), False),
            # What has its low above its high is no stretch.
            (TENT, ("1", "0"), LOW, False), (TENT, ("3/4", "1/4"), ("1/2", "1/2"), False), (TENT, ("0", "1"), HIGH[::-1], False),
        ):
            self.assertIs(covers(knots, span(*one), span(*other)), told, (knots, one, other))

    def test_against_values_taken_one_by_one(self):
        some = {True: 0, False: 0}
        for knots in some_maps(16, 25, 8, 4):
            ends = grid(knots, 3)
            ends = [ends[0] - 1] + ends + [ends[-1] + Fraction(1, 7)]
            chance = Random(len(ends))
            for step in range(200):
                one = tuple(sorted((chance.choice(ends), chance.choice(ends))))
                other = tuple(sorted((chance.choice(ends), chance.choice(ends))))
                told = covers(knots, span(*one), span(*other))
                self.assertIs(told, covered(knots, one, other))
                some[told] += 1
        self.assertGreater(min(some.values()), 200)


class LoopPoint(unittest.TestCase):

    def test_told(self):
        for knots, loop, point in (
            (TENT, ("0 1",), "0"), (TENT, ("0 1/2",), "0"), (TENT, ("1/2 1",), "2/3"), (TENT, ("1/4 1",), "2/3"),
            (TENT, ("2/3 2/3",), "2/3"), (TENT, ("0 1/2", "1/2 1"), "2/5"), (TENT, ("1/2 1", "0 1/2"), "4/5"),
            (TENT, ("1/2 1", "1/2 1"), "2/3"), (TENT, ("2/5 2/5", "4/5 4/5"), "2/5"), (TENT, ("1/4 1/2", "1/2 1"), "2/5"),
            (TENT, ("0 1/2", "0 1/2", "1/2 1"), "2/9"), (TENT, ("0 1/2", "1/2 1", "1/2 1"), "2/7"),
            (TENT, ("0 1", "0 1", "1/2 1"), "2/9"), (TENT, ("0 1", "1/2 1", "0 1/2"), "4/9"),
            (STAYS, ("1/3 1/2",), "1/3"), (STAYS, ("0 1",) * 6, "0"), (ABOUT, ("0 1", "0 1"), "0"),
            (ABOUT, ("1/4 1/3", "2/3 3/4"), "1/4"), (ABOUT, ("0 1",), "1/2"), (LEVEL, ("1/3 1/3",) * 5, "1/3"),
            (THREE, ("0 1", "1 2"), "2/3"), (THREE, ("1 2", "1 2"), "4/3"), (THREE, ("1 2", "1 2", "1 2"), "4/3"),
            (THREE, ("0 2",), "4/3"), (THREE, ("0 2",) * 2, "2/3"), (THREE, ("0 2",) * 3, "0"),
        ):
            told = loop_point(knots, spans(*loop))
            self.assertEqual(told, pair(point), (knots, loop))
            self.assertEqual(number(told), least_seen(knots, spans(*loop)), (knots, loop))

    def test_loops_of_one_stretch_to_six(self):
        for many in range(1, 7):
            for halves in product((LOW, HIGH), repeat=many):
                loop = tuple(span(*half) for half in halves)
                at = number(loop_point(TENT, loop))
                self.assertEqual(led(TENT, at, many), at)
                for turn, (low, high) in enumerate(loop):
                    self.assertTrue(number(low) <= led(TENT, at, turn) <= number(high))
                self.assertEqual(at, least_seen(TENT, loop))

    def test_against_each_way_through_the_pieces(self):
        longs = {}
        for place, knots in enumerate(some_maps(161, 90, 5, 4) + some_maps(162, 60, 3, 3) + some_maps(163, 20, 8, 3)):
            chance = Random(place)
            ends = grid(knots, 4)
            for step in range(120):
                many = chance.randint(1, 4)
                loop = tuple(
                    span(*sorted((chance.choice(ends), chance.choice(ends)))) for turn in range(many)
                )
                if is_loop_seen(knots, loop):
                    told = loop_point(knots, loop)
                    self.assertTrue(is_fraction(told))
                    self.assertEqual(number(told), least_seen(knots, loop), (knots, loop))
                    longs[many] = longs.get(many, 0) + 1
                else:
                    with self.assertRaises(NoLoop):
                        loop_point(knots, loop)
        self.assertGreater(min(longs.get(many, 0) for many in (1, 2, 3, 4)), 20)

    def test_what_is_no_loop(self):
        for knots, loop in (
            (TENT, ()), (STAYS, ()), (TENT, ("1 0",)), (TENT, ("2/3 1/2",)), (TENT, ("0 1", "1 0")), (TENT, ("1 0", "0 1")),
            (TENT, ("-1 1",)), (TENT, ("0 2",)), (TENT, ("2 3",)), (TENT, ("0 1", "-1/1000 1")), (STAYS, ("0 1", "0 1001/1000")),
            (TENT, ("1/4 1/2",)), (TENT, ("0 1/2", "1/2 1", "7/8 1")), (TENT, ("1/3 1/3",)), (TENT, ("0 1", "1/3 1/3")),
            (LEVEL, ("0 1",)), (LEVEL, ("1/2 1/2",)), (STAYS, ("0 1/2", "1/2 1")), (STAYS, ("1/3 1/2", "1/3 2/3")),
            (TENT, ("1/4 1/2", "1/2 1", "1/4 1/3")),
        ):
            with self.assertRaises(NoLoop, msg=(knots, loop)) as caught:
                loop_point(knots, spans(*loop))
            self.assertNotIsInstance(caught.exception, (NoPoint, NoParting))

    def test_six_stretches_of_seven_pieces_within_seconds(self):
        whole = (pair(0), pair(1))
        # Nothing comes back to below 1/2, where three pieces begin each way: these are all gone in vain.
        vain = made("0 1/2", "1/8 1", "1/4 1/2", "1/2 1", "5/8 1/2", "3/4 1", "7/8 1/2", "1 1")
        steep = made("0 9998/9999", "1/9973 1/9967", "2222/9999 1", "3/7 1/9999", "4/7 1", "5/7 1/9998", "6/7 1", "1 1/9901")
        for knots in (zigzag(8), vain, steep, turned(TENT, 5), turned(vain, 1)):
            for loop in ((whole,) * 6, (whole, (pair("1/2"), pair(1))) * 3):
                if not is_loop_seen(knots, loop):
                    loop = ((pair("1/2"), pair(1)),) * 6
                start = perf_counter()
                told = loop_point(knots, loop)
                self.assertLess(perf_counter() - start, 2)
                at = number(told)
                self.assertEqual(led(knots, at, 6), at)
                for turn, (low, high) in enumerate(loop):
                    self.assertTrue(number(low) <= led(knots, at, turn) <= number(high))
        self.assertEqual(loop_point(zigzag(8), (whole,) * 6), pair(0))


def between(way):
    ordered = sorted(number(point) for point in way)
    return [span(low, high) for low, high in zip(ordered, ordered[1:])]


def is_paper_seen(knots, way, many, loop):
    if len(loop) != many or any(stretch not in between(way) for stretch in loop) or not is_loop_seen(knots, loop):
        return False
    parts = [part for part in range(1, many) if many % part == 0]
    return not any(loop[:part] * (many // part) == loop for part in parts)


def first_paper_seen(knots, way, many):
    stretches = between(way)
    for word in product(range(len(stretches)), repeat=many):
        loop = tuple(stretches[place] for place in word)
        if is_paper_seen(knots, way, many, loop):
            return loop
    return None


def some_rounds():
    """Maps with rounds of two points and more."""
    told = []
    for knots in [TENT, THREE, zigzag(4)] + some_maps(18, 40, 4, 6) + some_maps(181, 40, 3, 6):
        pieces = len(fewest_lines(knots))
        for many in range(2, 8):
            if pieces ** many <= 130:
                told += [(knots, way) for way in rounds_of(knots, many)[:2]]
    # All ways about of five points, and some of seven.
    for worths in ("1 2 3 4 0", "2 3 4 1 0", "2 4 3 1 0", "3 4 1 0 2", "4 2 0 1 3", "1 3 4 2 0", "3 5 6 4 2 1 0"):
        tos = worths.split()
        knots = made(*[f"{at} {to}" for at, to in enumerate(tos)])
        way = [0]
        while len(way) < len(tos):
            way.append(int(tos[way[-1]]))
        if len(set(way)) == len(way):
            told.append((knots, tuple(pair(at) for at in way)))
    return told


class Papers(unittest.TestCase):

    def test_told(self):
        for knots, way, many, loop in (
            (TENT, "2/5 4/5", 1, ("2/5 4/5",)), (TENT, "2/5 4/5", 2, None), (TENT, "2/5 4/5", 3, None),
            (TENT, "2/5 4/5", 6, None), (ABOUT, "0 1", 1, ("0 1",)), (ABOUT, "0 1", 2, None),
            (THREE, "0 1 2", 1, ("1 2",)), (THREE, "0 1 2", 2, ("0 1", "1 2")), (THREE, "0 1 2", 3, ("0 1", "1 2", "1 2")),
            (THREE, "0 1 2", 4, ("0 1", "1 2", "1 2", "1 2")), (THREE, "0 1 2", 5, ("0 1", "1 2", "0 1", "1 2", "1 2")),
            (THREE, "0 1 2", 6, ("0 1", "1 2", "0 1", "1 2", "1 2", "1 2")),
            # 0 and 1 change places with 2 and 3, and nothing leads back to the stretch amid but itself.
            (FOUR, "0 2 1 3", 1, ("1 2",)), (FOUR, "0 2 1 3", 2, ("0 1", "2 3")), (FOUR, "0 2 1 3", 3, None),
            (FOUR, "0 2 1 3", 4, None), (FOUR, "0 2 1 3", 6, None),
        ):
            told = loop_for(knots, points(*way.split()), many)
            self.assertEqual(told, None if loop is None else spans(*loop), (knots, way, many))

    def test_the_first_of_all_or_none(self):
        some = {True: 0, False: 0}
        for knots, way in some_rounds():
            for many in range(1, 7 if len(way) < 6 else 5):
                told = loop_for(knots, way, many)
                self.assertEqual(told, first_paper_seen(knots, way, many), (knots, way, many))
                self.assertTrue(told is None or type(told) is tuple and all(is_row(row, 2) for row in told))
                some[told is None] += 1
        self.assertGreater(min(some.values()), 30)

    def test_what_a_paper_is_for(self):
        some = 0
        for knots, way in some_rounds():
            for many in range(1, 6):
                loop = loop_for(knots, way, many)
                if loop is None:
                    continue
                self.assertIs(loop_shown(knots, way, many, loop), True)
                point = loop_point(knots, loop)
                turns = [led(knots, number(point), turn) for turn in range(1, many + 1)]
                self.assertEqual(turns[-1], number(point))
                self.assertTrue(turns.index(number(point)) + 1 == many or point in way, (knots, way, loop))
                some += 1
        self.assertGreater(some, 100)

    def test_any_loop_looked_at(self):
        some = {True: 0, False: 0}
        for place, (knots, way) in enumerate(some_rounds()):
            chance = Random(place)
            ends = sorted(number(point) for point in way)
            others = [span(ends[0], ends[-1]), span(ends[1], ends[0]), span(ends[0], ends[0]), span(ends[0] - 1, ends[0])]
            for step in range(30):
                long = chance.randint(0, 6)
                loop = tuple(chance.choice(between(way)) for turn in range(long))
                if step % 5 == 0:
                    loop += (chance.choice(others),)
                if step % 7 == 0:
                    loop = loop[:2] * 2
                many = len(loop) if step % 4 else chance.randint(1, 6)
                told = loop_shown(knots, way, many, loop)
                self.assertIs(told, is_paper_seen(knots, way, many, loop), (knots, way, many, loop))
                some[told] += 1
        self.assertGreater(min(some.values()), 100)

    def test_not_let_by(self):
        way = points("0", "1", "2")
        for many, loop in (
            (0, ()), (1, ()), (2, ()), (1, ("0 1",)), (2, ("1 2",)), (1, ("1 2", "1 2")), (2, ("1 2", "1 2")),
            (3, ("1 2", "1 2", "1 2")), (4, ("0 1", "1 2", "0 1", "1 2")), (6, ("0 1", "1 2", "1 2") * 2),
            (3, ("0 1", "1 2")), (2, ("0 1", "1 2", "1 2")), (1, ("0 2",)), (2, ("0 2", "1 2")), (2, ("0 1", "0 1")),
            (1, ("2 1",)), (2, ("1 0", "1 2")), (1, ("4/3 4/3",)), (2, ("0 1", "1 3/2")), (1, ("-1 5",)), (1, ("7 9",)),
            (1, ("1 1",)), (2, ("1 2", "2 2")),
        ):
            self.assertIs(loop_shown(THREE, way, many, spans(*loop)), False, (many, loop))

    def test_let_by_from_any_of_its_stretches(self):
        way = points("0", "1", "2")
        for many, loop in (
            (1, ("1 2",)), (2, ("0 1", "1 2")), (2, ("1 2", "0 1")), (3, ("0 1", "1 2", "1 2")), (3, ("1 2", "0 1", "1 2")),
            (3, ("1 2", "1 2", "0 1")), (5, ("1 2", "0 1", "1 2", "1 2", "1 2")),
        ):
            self.assertIs(loop_shown(THREE, way, many, spans(*loop)), True, (many, loop))

    def test_a_single_point_has_no_stretch(self):
        self.assertIsNone(loop_for(TENT, points("2/3"), 1))
        self.assertIs(loop_shown(TENT, points("2/3"), 1, spans("2/3 2/3")), False)

    def test_no_turns_have_no_paper(self):
        self.assertIsNone(loop_for(THREE, points("0", "1", "2"), 0))
        self.assertIs(loop_shown(THREE, points("0", "1", "2"), 0, ()), False)

    def test_six_turns_of_seven_points_within_seconds(self):
        seven = made("0 3", "1 4", "2 5", "3 6", "4 2", "5 1", "6 0")
        for knots, way in ((seven, points("0", "3", "6")), (TENT, rounds_of(TENT, 7)[9]), (TENT, rounds_of(TENT, 7)[0])):
            for many in range(1, 7):
                start = perf_counter()
                told = loop_for(knots, way, many)
                self.assertLess(perf_counter() - start, 2)
                self.assertTrue(told is None or loop_shown(knots, way, many, told))


if __name__ == "__main__":
    unittest.main()
