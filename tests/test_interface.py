"""[2]: arguments by place and by name in any order, the same asked again, nothing changed by another call."""

import unittest
from inspect import signature

from bentstretch.alike.turned import alike_shown, straight_turns, turn_back, turned_about
from bentstretch.errors import NoLoop, NoMap, NoParting, NoPoint
from bentstretch.kept import KeptMap
from bentstretch.maps.back import comes_into, comes_to, laid_over, stays_of
from bentstretch.maps.texts import map_shown, read_map
from bentstretch.maps.turns import laps_of, pieces_of, put_behind, turned
from bentstretch.maps.values import least_knots, value_of
from bentstretch.mix.classes import all_reached, classes_of
from bentstretch.mix.humps import hump_word, points_with, turn_of, words_compared
from bentstretch.mix.mixing import mix_between, mix_poly, mix_with, round_words, round_words_by
from bentstretch.mix.shares import long_shares, share_of, share_twice, shares_shown
from bentstretch.parts.partings import fits, least_parting, table_of
from bentstretch.parts.words import how_many_words, point_of, stretch_of, word_comes
from bentstretch.rounds.forward import all_after, laid_by, way_forward
from bentstretch.rounds.lengths import brings, lengths_of
from bentstretch.rounds.loops import covers, loop_for, loop_point, loop_shown
from bentstretch.rounds.rounds import come_round, rounds_of
from bentstretch.rounds.sides import sides_at, slope_of_round
from bentstretch.rounds.ways import told_apart, way_of
from bentstretch.whole import Desk
from tests.helper import made, pair, points, spans

TENT = made("0 0", "1/4 1/2", "1/2 1", "1 0")
OTHER = made("0 1", "1/3 1/3", "2/3 1/3", "1 0")
THREE = made("0 1", "1 2", "2 0")
LOW, HIGH, POINT = pair("1/5"), pair("3/4"), pair("2/7")
WAY = points("0", "1", "2")
TABLE = ((1, 1), (9, 0))
TURN = made("0 1", "1/4 1/2", "1 0")
SHARES = points("1/3", "2/3")

ASKED = (
    (read_map, {"text": "0 0\n2/4 1\n1 0"}),
    (map_shown, {"knots": TENT}),
    (value_of, {"knots": TENT, "point": POINT}),
    (least_knots, {"knots": TENT}),
    (put_behind, {"one": TENT, "other": OTHER}),
    (turned, {"knots": OTHER, "many": 3}),
    (pieces_of, {"knots": TENT}),
    (laps_of, {"knots": OTHER}),
    (comes_to, {"knots": OTHER, "point": pair("1/3")}),
    (stays_of, {"knots": OTHER}),
    (laid_over, {"knots": TENT, "low": LOW, "high": HIGH}),
    (comes_into, {"knots": OTHER, "low": LOW, "high": HIGH}),
    (come_round, {"knots": TENT, "many": 3}),
    (rounds_of, {"knots": TENT, "many": 3}),
    (sides_at, {"knots": TENT, "point": POINT, "many": 3}),
    (slope_of_round, {"knots": TENT, "points": points("2/5", "4/5")}),
    (way_of, {"knots": OTHER, "point": POINT, "many": 5}),
    (told_apart, {"knots": TENT, "one": LOW, "other": pair("1/4"), "width": pair("1/3"), "many": 9}),
    (covers, {"knots": THREE, "one": (pair(0), pair(1)), "other": (pair(1), pair(2))}),
    (loop_point, {"knots": THREE, "loop": spans("0 1", "1 2")}),
    (loop_for, {"knots": THREE, "points": WAY, "many": 5}),
    (loop_shown, {"knots": THREE, "points": WAY, "many": 2, "loop": spans("0 1", "1 2")}),
    (brings, {"one": 6, "other": 4}),
    (lengths_of, {"knots": THREE, "most": 4}),
    (fits, {"knots": THREE, "parting": WAY}),
    (least_parting, {"knots": TENT, "most": 3}),
    (table_of, {"knots": THREE, "parting": WAY}),
    (word_comes, {"table": TABLE, "word": (0, 1, 0, 0)}),
    (how_many_words, {"table": TABLE, "letters": 5}),
    (stretch_of, {"knots": THREE, "parting": WAY, "word": (0, 1, 1)}),
    (point_of, {"knots": THREE, "parting": WAY, "word": (0, 1, 1)}),
    (mix_poly, {"table": TABLE}),
    (mix_between, {"table": TABLE, "width": pair("1/1000")}),
    (mix_with, {"table": TABLE, "fraction": pair("7/2")}),
    (round_words, {"table": TABLE, "many": 7}),
    (round_words_by, {"poly": (-9, -1, 1), "many": 7}),
    (classes_of, {"table": TABLE}),
    (all_reached, {"table": TABLE}),
)
# These are asked by place, and have the names of the interface for whoever reads them.
BY_PLACE = (
    (turn_of, {"knots": TENT}),
    (hump_word, {"knots": TENT, "point": POINT, "many": 6}),
    (words_compared, {"one": "lrl", "other": "lrc"}),
    (points_with, {"knots": TENT, "word": "lrr"}),
    (turned_about, {"knots": TENT, "turn": TURN}),
    (turn_back, {"turn": TURN}),
    (alike_shown, {"one": TENT, "other": TENT, "turn": TURN}),
    (straight_turns, {"one": TENT, "other": OTHER}),
    (long_shares, {"knots": THREE, "parting": WAY}),
    (shares_shown, {"knots": THREE, "parting": WAY, "shares": SHARES}),
    (share_of, {"parting": WAY, "shares": SHARES, "low": LOW, "high": HIGH}),
    (share_twice, {"knots": THREE, "parting": WAY, "shares": SHARES, "low": LOW, "high": HIGH}),
    (way_forward, {"knots": OTHER, "low": LOW, "high": HIGH, "many": 6}),
    (all_after, {"knots": TENT, "low": LOW, "high": HIGH, "many": 6}),
    (laid_by, {"knots": OTHER, "many": 6}),
)
REFUSED = (
    (read_map, {"text": "0 0\n0 0"}, NoMap),
    (value_of, {"knots": TENT, "point": pair(2)}, NoPoint),
    (put_behind, {"one": TENT, "other": made("0 0", "2 2")}, NoMap),
    (comes_to, {"knots": TENT, "point": pair(-1)}, NoPoint),
    (laid_over, {"knots": TENT, "low": HIGH, "high": LOW}, NoPoint),
    (comes_into, {"knots": TENT, "low": HIGH, "high": LOW}, NoPoint),
    (sides_at, {"knots": TENT, "point": POINT, "many": 6}, NoPoint),
    (way_of, {"knots": TENT, "point": pair(2), "many": 0}, NoPoint),
    (told_apart, {"knots": TENT, "one": LOW, "other": pair(-1), "width": pair(0), "many": 0}, NoPoint),
    (loop_point, {"knots": TENT, "loop": ()}, NoLoop),
    (table_of, {"knots": THREE, "parting": WAY[:2]}, NoParting),
    (stretch_of, {"knots": THREE, "parting": WAY[1:], "word": ()}, NoParting),
    (point_of, {"knots": THREE, "parting": WAY[1:], "word": ()}, NoParting),
    (point_of, {"knots": THREE, "parting": WAY, "word": (0, 0)}, NoLoop),
)
REFUSED_BY_PLACE = (
    (turn_of, (OTHER,), NoParting),
    (hump_word, (TENT, pair(2), 0), NoPoint),
    (points_with, (OTHER, ""), NoParting),
    (turned_about, (TENT, OTHER), NoMap),
    (turn_back, (OTHER,), NoMap),
    (long_shares, (THREE, WAY[1:]), NoParting),
    (way_forward, (TENT, HIGH, LOW, 0), NoPoint),
    (all_after, (TENT, HIGH, LOW, 0), NoPoint),
)
METHODS = (
    (KeptMap, ("put_knot", "take_knot", "lead_knot", "knots_now", "value_now", "stays_now")),
    (Desk, ("ask",)),
)


def about(named):
    """The same names in the opposite order."""
    return {name: named[name] for name in reversed(list(named))}


def all_told():
    """What all functions tell, each asked once."""
    return [asked(*named.values()) for asked, named in ASKED + BY_PLACE]


class Interface(unittest.TestCase):

    def test_by_place_and_by_name(self):
        for asked, named in ASKED:
            told = asked(*named.values())
            self.assertEqual(asked(**named), told, asked)
            self.assertEqual(asked(**about(named)), told, asked)
            first, *others = named
            rest = {name: named[name] for name in others}
            self.assertEqual(asked(named[first], **about(rest)), told, asked)

    def test_names_of_arguments(self):
        for asked, named in ASKED + BY_PLACE:
            self.assertEqual(list(signature(asked).parameters), list(named), asked)

    def test_methods_stand_in_their_classes(self):
        for owner, names in METHODS:
            self.assertLessEqual(set(names), set(vars(owner)))

    def test_refused_by_name(self):
        for asked, named, refusal in REFUSED:
            for kept in (named, about(named)):
                with self.assertRaises(refusal):
                    asked(**kept)

    def test_refused_by_place(self):
        for asked, handed, refusal in REFUSED_BY_PLACE:
            with self.assertRaises(refusal):
                asked(*handed)

    def test_the_same_again_behind_all_others(self):
        kept = all_told()
        first = [repr(told) for told in kept]
        desk, map_kept = Desk(), KeptMap(TENT)
        desk.ask("map 0 1;1 2;2 0")
        map_kept.take_knot(pair("1/2"))
        for asked, named, refusal in REFUSED:
            self.assertRaises(refusal, asked, *named.values())
        again = [repr(asked(*named.values())) for asked, named in reversed(ASKED + BY_PLACE)]
        self.assertEqual(again[::-1], first)
        self.assertEqual([repr(told) for told in kept], first)

    def test_nothing_handed_in_is_changed(self):
        before = repr([named for asked, named in ASKED + BY_PLACE])
        all_told()
        self.assertEqual(repr([named for asked, named in ASKED + BY_PLACE]), before)

    def test_lists_told_are_the_askers(self):
        told = all_told()
        before = [repr(one) for one in told]
        for one in told:
            if isinstance(one, list):
                one.clear()
        self.assertEqual([repr(one) for one in all_told()], before)


if __name__ == "__main__":
    unittest.main()
