"""[3]: of two maps alike by a turn all that hangs on no names is the same."""

import unittest

from bentstretch.alike.turned import alike_shown, straight_turns, turned_about
from bentstretch.maps.back import comes_into, comes_to, laid_over, stays_of
from bentstretch.maps.turns import laps_of, pieces_of, turned
from bentstretch.maps.values import least_knots
from bentstretch.mix.classes import all_reached, classes_of
from bentstretch.mix.humps import hump_word, points_with, turn_of
from bentstretch.mix.mixing import mix_poly, round_words
from bentstretch.mix.shares import long_shares, shares_shown
from bentstretch.parts.partings import fits, least_parting, table_of
from bentstretch.parts.words import how_many_words
from bentstretch.rounds.forward import all_after, laid_by, way_forward
from bentstretch.rounds.lengths import lengths_of
from bentstretch.rounds.rounds import come_round, rounds_of
from bentstretch.rounds.sides import sides_at, slope_of_round
from bentstretch.rounds.ways import way_of
from tests.helper import grid, height, number, pair, some_humps, some_maps
from tests.test_turned import end_turns, some_turn


def cases(seed, many, knots, coarse):
    """A map, a turn of its stretch, whether that falls, and the map turned about by it."""
    for step, one in enumerate(some_maps(seed, many, knots, coarse)):
        for falls in (False, True):
            turn = some_turn(step, one, falls, 6)
            yield one, turn, falls, turned_about(one, turn)


def moved(turn, point):
    """A point, turned without the program."""
    return pair(height(turn, number(point)))


def moved_ends(turn, ends):
    """A stretch turned."""
    told = sorted(height(turn, number(end)) for end in ends)
    return (pair(told[0]), pair(told[1]))


def moved_pairs(turn, falls, pairs):
    """Pairs turned, in rising order."""
    told = [moved_ends(turn, ends) for ends in pairs]
    return tuple(told[::-1] if falls else told)


def as_rounds(rounds, turn=None):
    """Rounds as they are, whichever point is first."""
    return {frozenset(moved(turn, point) if turn else point for point in way) for way in rounds}


class Same(unittest.TestCase):

    def test_points_and_stretches(self):
        for knots, turn, falls, other in cases(3, 30, 5, 4):
            self.assertIs(alike_shown(knots, other, turn), True)
            self.assertEqual(laps_of(knots), laps_of(other))
            self.assertEqual(stays_of(other), moved_pairs(turn, falls, stays_of(knots)))
            ats = grid(knots, 3)
            for at in ats:
                spot = moved(turn, pair(at))
                self.assertEqual(comes_to(other, spot), moved_pairs(turn, falls, comes_to(knots, pair(at))))
                way, led = way_of(knots, pair(at), 6), way_of(other, spot, 6)
                if way[0] == "open":
                    way = ("open", tuple(moved(turn, point) for point in way[1]))
                self.assertEqual(led, way)
            for low, high in zip(ats, ats[2:]):
                ends = moved_ends(turn, (pair(low), pair(high)))
                self.assertEqual(laid_over(other, *ends), moved_ends(turn, laid_over(knots, pair(low), pair(high))))
                self.assertEqual(comes_into(other, *ends), moved_pairs(turn, falls, comes_into(knots, pair(low), pair(high))))
                way = way_forward(knots, pair(low), pair(high), 6)
                stretches = tuple(moved_ends(turn, stretch) for stretch in way[1])
                self.assertEqual(way_forward(other, *ends, 6), (way[0], stretches) + way[2:])
                self.assertEqual(all_after(other, *ends, 6), all_after(knots, pair(low), pair(high), 6))
            self.assertEqual(laid_by(other, 5), tuple(moved_ends(turn, ends) for ends in laid_by(knots, 5)))

    def test_rounds(self):
        sides_seen = set()
        for knots, turn, falls, other in cases(31, 40, 4, 3):
            most = 3
            self.assertEqual(turned_about(turned(knots, most), turn), turned(other, most))
            self.assertEqual(lengths_of(other, most), lengths_of(knots, most))
            for many in range(1, most + 1):
                self.assertEqual(come_round(other, many), moved_pairs(turn, falls, come_round(knots, many)))
                rounds = rounds_of(knots, many)
                self.assertEqual(as_rounds(rounds_of(other, many)), as_rounds(rounds, turn))
                for point in [point for way in rounds for point in way]:
                    sides = sides_at(knots, point, many)
                    sides_seen.add(sides)
                    told = sides_at(other, moved(turn, point), many)
                    self.assertEqual(told, sides[::-1] if falls else sides, (knots, turn, point))
        self.assertGreater(len(sides_seen), 5)

    def test_straight_turns(self):
        parted = 0
        for knots in some_maps(32, 60, 6, 4):
            for falls, turn in enumerate(end_turns(knots)):
                other = turned_about(knots, turn)
                step = -1 if falls else 1
                self.assertIn(turn, straight_turns(knots, other))
                self.assertEqual([piece[2] for piece in pieces_of(other)], [piece[2] for piece in pieces_of(knots)][::step])
                for many in (1, 2):
                    slopes = sorted([repr(slope_of_round(knots, way)) for way in rounds_of(knots, many)])
                    self.assertEqual(sorted([repr(slope_of_round(other, way)) for way in rounds_of(other, many)]), slopes)
                parting = least_parting(knots, 13)
                self.assertEqual(least_parting(other, 13) is None, parting is None)
                if parting is not None:
                    self.parted(knots, parting, turn, step, other)
                    parted += 1
        self.assertGreater(parted, 20)

    def parted(self, knots, parting, turn, step, other):
        led = tuple(moved(turn, point) for point in parting)[::step]
        self.assertEqual(least_parting(other, 13), led)
        self.assertIs(fits(other, led), True)
        one, two = table_of(knots, parting), table_of(other, led)
        self.assertEqual(two, tuple(line[::step] for line in one)[::step])
        self.assertEqual(mix_poly(one), mix_poly(two))
        self.assertEqual(round_words(one, 9), round_words(two, 9))
        self.assertEqual(how_many_words(one, 9), how_many_words(two, 9))
        self.assertEqual(all_reached(one), all_reached(two))
        kinds = [sorted(zip([len(members) for members in told[0]], *told[1:])) for told in (classes_of(one), classes_of(two))]
        self.assertEqual(kinds[0], kinds[1])
        if all(any(line) for line in one):
            shares = [row[::step] for row in long_shares(knots, parting)]
            self.assertEqual(sorted(long_shares(other, led)), sorted(shares))
            for row in shares:
                self.assertIs(shares_shown(other, led, row), True)

    def test_humps(self):
        for step, (knots, top) in enumerate(some_humps(33, 25)):
            turn = some_turn(step, knots, False, 6)
            other = turned_about(knots, turn)
            self.assertEqual(turn_of(other), moved(turn, top))
            for at in grid(knots, 5):
                word = hump_word(knots, pair(at), 6)
                self.assertEqual(hump_word(other, moved(turn, pair(at)), 6), word)
                self.assertEqual(points_with(other, word)[:2], moved_ends(turn, points_with(knots, word)[:2]))

    def test_turned_about_by_itself(self):
        # A turn of a stretch is a map of it, too: it is alike to itself by itself.
        for knots, turn, falls, other in cases(34, 20, 3, 3):
            self.assertEqual(turned_about(turn, turn), least_knots(turn))


if __name__ == "__main__":
    unittest.main()
