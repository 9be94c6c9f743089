"""[28] and [29]: turns of a stretch, maps turned about, and maps alike by a turn."""

import unittest
from fractions import Fraction
from random import Random

from bentstretch.alike.turned import alike_shown, straight_turns, turn_back, turned_about
from bentstretch.errors import NoMap
from bentstretch.maps.turns import turned
from bentstretch.maps.values import least_knots
from tests.helper import fewest_lines, grid, height, is_row, lines_of, made, number, pair, some_maps, with_more

TENT = made("0 0", "1/2 1", "1 0")
VALLEY = made("0 1", "1/2 0", "1 1")
STAYS = made("0 0", "1 1")
ABOUT = made("0 1", "1 0")
BENT = made("0 0", "1/2 1/4", "1 1")
BENT_DOWN = made("0 1", "1/4 1/2", "1 0")
SKEW = made("0 0", "1/2 2/3", "1 1/4")
NO_TURNS = (
    made("0 0", "1/3 1/2", "2/3 1/2", "1 1"), made("0 1", "1/3 1/2", "2/3 1/2", "1 0"), made("0 0", "1/3 0", "1 1"),
    made("0 0", "1/3 1", "1 1"), made("0 1", "1/3 1", "1 0"), made("0 1", "1/3 0", "1 0"), TENT, VALLEY,
    made("0 0", "1/3 2/3", "2/3 1/3", "1 1"), made("0 1", "1/3 1/3", "2/3 2/3", "1 0"), made("0 0", "1 1/2"), made("0 1/2", "1 1"),
    made("0 1/4", "1 3/4"), made("0 3/4", "1 1/4"), made("0 1", "1 1/2"), made("0 1/2", "1 0"), made("0 1/3", "1 1/3"),
    made("0 1", "1 1"), made("0 0", "1 0"), made("0 0", "1/2 1/3", "1 999/1000"), made("0 1/1000", "1/2 1/3", "1 1"),
)
OF_OTHERS = (
    made("0 0", "2 2"), made("0 2", "2 0"), made("-1 -1", "1 1"), made("-1 1", "1 -1"), made("1 1", "2 2"), made("0 0", "1/2 1/2"),
    made("0 0", "1/3 1/4", "2/3 2/3"),
)


def end_turns(knots):
    low, high = knots[0][0], knots[-1][0]
    return ((low, low), (high, high)), ((low, high), (high, low))


def some_turn(seed, knots, falls, coarse=12):
    """A turn of the stretch of a map, of a few knots, the same one each time."""
    chance = Random(seed)
    low, high = number(knots[0][0]), number(knots[-1][0])
    many = chance.randint(0, 4)
    ats = [0] + sorted(chance.sample(range(1, coarse), many)) + [coarse]
    tos = [0] + sorted(chance.sample(range(1, coarse), many)) + [coarse]
    if falls:
        tos.reverse()
    led = [(low + (high - low) * at / coarse, low + (high - low) * to / coarse) for at, to in zip(ats, tos)]
    return tuple((pair(at), pair(to)) for at, to in led)


def cases():
    """Maps, and turns of their stretches, rising and falling ones."""
    for seed, knots in enumerate(some_maps(28, 40, 6)):
        for falls in (False, True):
            yield knots, some_turn(seed, knots, falls)


def is_few(knots):
    """Whether no knot amid is one at which a map goes straight on."""
    return len(fewest_lines(knots)) == len(knots) - 1


class TurnedAbout(unittest.TestCase):

    def test_told(self):
        for knots, turn, told in (
            (TENT, STAYS, TENT), (TENT, ABOUT, VALLEY), (VALLEY, ABOUT, TENT), (STAYS, BENT, STAYS), (ABOUT, ABOUT, ABOUT),
            (STAYS, BENT_DOWN, STAYS), (TENT, BENT, made("0 0", "1/8 1/4", "1/4 1", "5/8 1/4", "1 0")),
            (SKEW, ABOUT, made("0 3/4", "1/2 1/3", "1 1")), (made("0 1/3", "1 1/3"), BENT, made("0 1/6", "1 1/6")),
            (made("0 1/4", "1 1/4"), ABOUT, made("0 3/4", "1 3/4")), (made("0 0", "1/3 1/3", "1 1"), BENT, STAYS),
            (BENT, BENT, BENT), (BENT, ABOUT, made("0 0", "1/2 3/4", "1 1")),
        ):
            self.assertEqual(turned_about(knots, turn), told, (knots, turn))

    def test_turned_values(self):
        for knots, turn in cases():
            told = turned_about(knots, turn)
            self.assertTrue(type(told) is tuple and all(is_row(knot, 2) for knot in told))
            self.assertTrue(is_few(told), (knots, turn))
            self.assertEqual((told[0][0], told[-1][0]), (knots[0][0], knots[-1][0]))
            ats = set(grid(knots, 13)) | {number(knot[0]) for knot in turn}
            for at in ats:
                self.assertEqual(height(told, height(turn, at)), height(turn, height(knots, at)), (knots, turn, at))
            # Its bends are looked at from its own side, too.
            back = tuple(sorted(((to, at) for at, to in turn), key=lambda knot: number(knot[0])))
            for at, to in told:
                self.assertEqual(number(to), height(turn, height(knots, height(back, number(at)))))

    def test_all_its_bends(self):
        # Straight between neighbours of all points at which any of the three parts may bend.
        for knots, turn in cases():
            told = turned_about(knots, turn)
            ordered = sorted({number(knot[0]) for knot in told})
            for low, high in zip(ordered, ordered[1:]):
                for share in (Fraction(1, 3), Fraction(1, 2), Fraction(5, 7)):
                    at = low + (high - low) * share
                    back = tuple(sorted(((to, at) for at, to in turn), key=lambda knot: number(knot[0])))
                    self.assertEqual(height(told, at), height(turn, height(knots, height(back, at))))

    def test_and_back_again(self):
        for knots, turn in cases():
            told = turned_about(knots, turn)
            self.assertEqual(turned_about(told, turn_back(turn)), least_knots(knots))
            self.assertTrue(alike_shown(told, knots, turn_back(turn)))

    def test_knots_more(self):
        for knots, turn in cases():
            told = turned_about(knots, turn)
            self.assertEqual(turned_about(with_more(knots), turn), told)
            self.assertEqual(turned_about(knots, with_more(turn)), told)
            self.assertEqual(turned_about(with_more(knots), with_more(turn)), told)
            self.assertEqual(turn_back(with_more(turn)), turn_back(turn))

    def test_maps_of_forty_knots(self):
        knots = turned(TENT, 5)
        self.assertEqual(len(knots), 33)
        told = turned_about(knots, BENT_DOWN)
        self.assertEqual(told, turned(turned_about(TENT, BENT_DOWN), 5))

    def test_refused(self):
        for turn in NO_TURNS + OF_OTHERS:
            for knots in (TENT, STAYS, ABOUT, SKEW, turn if turn in NO_TURNS else TENT):
                with self.assertRaises(NoMap) as caught:
                    turned_about(knots, turn)
                self.assertEqual(caught.exception.row, 0)
        for knots, turn in cases():
            for other in (TENT, made("-90 90", "90 -90")):
                if other[0][0] != knots[0][0] or other[-1][0] != knots[-1][0]:
                    self.assertRaises(NoMap, turned_about, other, turn)

    def test_as_short_a_stretch(self):
        # One end alone may be another one.
        for turn in (made("0 0", "999/1000 999/1000"), made("1/1000 1/1000", "1 1")):
            self.assertRaises(NoMap, turned_about, TENT, turn)
            self.assertIs(alike_shown(TENT, TENT, turn), False)


class Back(unittest.TestCase):

    def test_told(self):
        for turn, told in (
            (STAYS, STAYS), (ABOUT, ABOUT), (BENT, made("0 0", "1/4 1/2", "1 1")), (BENT_DOWN, made("0 1", "1/2 1/4", "1 0")),
            (made("-1 -1", "0 1", "2 2"), made("-1 -1", "1 0", "2 2")), (made("0 0", "1/3 1/3", "1 1"), STAYS),
            (made("0 1", "1/4 3/4", "1/2 1/3", "1 0"), made("0 1", "1/3 1/2", "3/4 1/4", "1 0")),
        ):
            self.assertEqual(turn_back(turn), told, turn)

    def test_leads_back(self):
        for knots, turn in cases():
            back = turn_back(turn)
            self.assertTrue(type(back) is tuple and all(is_row(knot, 2) for knot in back) and is_few(back))
            for at in grid(turn, 7):
                self.assertEqual(height(back, height(turn, at)), at)
                self.assertEqual(height(turn, height(back, at)), at)
            self.assertEqual(turn_back(back), least_knots(turn))

    def test_refused(self):
        for turn in NO_TURNS + ((), made("0 0"), made("0 0", "5 1/2", "1 1")):
            with self.assertRaises(NoMap) as caught:
                turn_back(turn)
            self.assertEqual(caught.exception.row, 0)

    def test_any_map(self):
        kinds = {True: 0, False: 0}
        for knots in some_maps(281, 600, 3, 2):
            slopes = [line[2] for line in lines_of(knots)]
            one_way = all(slope > 0 for slope in slopes) or all(slope < 0 for slope in slopes)
            has = one_way and {knots[0][1], knots[-1][1]} == {knots[0][0], knots[-1][0]}
            kinds[has] += 1
            if has:
                self.assertEqual(len(turn_back(knots)), len(least_knots(knots)))
            else:
                self.assertRaises(NoMap, turn_back, knots)
        self.assertGreater(min(kinds.values()), 20)


class Alike(unittest.TestCase):

    def test_told(self):
        for one, other, turn, told in (
            (TENT, TENT, STAYS, True), (TENT, VALLEY, ABOUT, True), (TENT, VALLEY, STAYS, False), (TENT, TENT, ABOUT, False),
            (STAYS, STAYS, BENT, True), (STAYS, STAYS, BENT_DOWN, True), (TENT, STAYS, BENT, False), (SKEW, SKEW, ABOUT, False),
            (TENT, made("0 0", "1/8 1/4", "1/4 1", "5/8 1/4", "1 0"), BENT, True), (ABOUT, ABOUT, ABOUT, True),
            (made("0 0", "1/8 1/4", "1/4 1", "5/8 1/4", "1 0"), TENT, BENT, False), (ABOUT, ABOUT, BENT, False),
            (TENT, made("0 0", "1/2 1", "3/4 1/2", "1 0"), made("0 0", "1/3 1/3", "1 1"), True),
        ):
            self.assertIs(alike_shown(one, other, turn), told, (one, other, turn))

    def test_what_is_no_turn(self):
        for third in NO_TURNS + OF_OTHERS + ((), made("0 0"), made("0 1"), made("0 0", "0 0"), made("1 1", "0 0"), made("1 0", "0 1")):
            for knots in (TENT, STAYS, ABOUT, VALLEY, made("0 1/3", "1 1/3")):
                self.assertIs(alike_shown(knots, knots, third), False, (knots, third))

    def test_knots_that_do_not_rise(self):
        third = made("0 0", "2/3 1/3", "1/3 2/3", "1 1")
        self.assertIs(alike_shown(STAYS, STAYS, third), False)
        self.assertIs(alike_shown(STAYS, STAYS, made("0 0", "1/3 1/3", "1/3 2/3", "1 1")), False)
        self.assertIs(alike_shown(TENT, TENT, made("0 0", "5 1/2", "1 1")), False)
        self.assertIs(alike_shown(TENT, VALLEY, made("0 1", "-5 1/2", "1 0")), False)

    def test_maps_turned_about(self):
        unlike = 0
        for knots, turn in cases():
            told = turned_about(knots, turn)
            for one in (knots, with_more(knots)):
                for other in (told, with_more(told)):
                    self.assertIs(alike_shown(one, other, with_more(turn)), True)
            for another in end_turns(knots) + (turn_back(turn),):
                alike = all(
                    height(told, height(another, at)) == height(another, height(knots, at))
                    for at in grid(knots, 12) + [number(at) for at, to in turn]
                )
                if alike_shown(knots, told, another):
                    self.assertTrue(alike)
                unlike += not alike
                if not alike:
                    self.assertIs(alike_shown(knots, told, another), False)
        self.assertGreater(unlike, 50)

    def test_unlike_stretches(self):
        wide = made("0 0", "1 2", "2 0")
        for turn in (STAYS, ABOUT, made("0 0", "2 2"), made("0 2", "2 0")):
            self.assertIs(alike_shown(TENT, wide, turn), False)
            self.assertIs(alike_shown(wide, TENT, turn), False)


class Straight(unittest.TestCase):

    def test_told(self):
        even = made("0 0", "1/4 1", "3/4 0", "1 1")
        level = made("0 1/2", "1 1/2")
        for one, other, told in (
            (TENT, TENT, (STAYS,)), (TENT, VALLEY, (ABOUT,)), (VALLEY, TENT, (ABOUT,)), (TENT, SKEW, ()), (even, even, (STAYS, ABOUT)),
            (level, level, (STAYS, ABOUT)), (STAYS, STAYS, (STAYS, ABOUT)), (ABOUT, ABOUT, (STAYS, ABOUT)), (STAYS, ABOUT, ()),
            (made("0 1/3", "1 1/3"), made("0 2/3", "1 2/3"), (ABOUT,)), (made("0 0", "1/4 1/2", "1/2 1", "1 0"), TENT, (STAYS,)),
            (TENT, made("0 1", "1/4 1/2", "1/2 0", "1 1"), (ABOUT,)), (TENT, made("0 0", "1 2", "2 0"), ()),
            (made("0 0", "2 2"), STAYS, ()), (STAYS, made("-1 -1", "1 1"), ()), (STAYS, made("0 0", "2 2"), ()),
            (made("-3 -1", "-1 -3"), made("-3 -1", "-2 -2", "-1 -3"), (made("-3 -3", "-1 -1"), made("-3 -1", "-1 -3"))),
            (ABOUT, made("1/2 1", "1 1/2"), ()),
        ):
            self.assertEqual(straight_turns(one, other), told, (one, other))

    def test_against_values(self):
        seen = {0: 0, 1: 0, 2: 0}
        for knots in some_maps(29, 60, 5, 3):
            rises, falls = end_turns(knots)
            mirrored = turned_about(knots, falls)
            same = mirrored == least_knots(knots)
            told = straight_turns(knots, mirrored)
            self.assertEqual(told, (rises, falls) if same else (falls,))
            self.assertEqual(straight_turns(mirrored, with_more(knots)), told)
            self.assertEqual(straight_turns(knots, knots), (rises, falls) if same else (rises,))
            for turn in told:
                self.assertIs(alike_shown(knots, mirrored, turn), True)
            seen[len(told)] += 1
        for one in some_maps(290, 12, 4, 2):
            for other in some_maps(290, 12, 4, 2):
                if (one[0][0], one[-1][0]) != (other[0][0], other[-1][0]):
                    self.assertEqual(straight_turns(one, other), ())
                    seen[0] += 1
        self.assertGreater(min(seen.values()), 1)


if __name__ == "__main__":
    unittest.main()
