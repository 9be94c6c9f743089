"""[37]: the desk, each kind of line, and each refusal."""

import unittest
from fractions import Fraction

from bentstretch.errors import NoAsk, NoMap, NoPoint
from bentstretch.maps.back import comes_to, stays_of
from bentstretch.maps.texts import map_shown
from bentstretch.maps.turns import pieces_of
from bentstretch.maps.values import value_of
from bentstretch.mix.mixing import mix_with
from bentstretch.parts.partings import least_parting, table_of
from bentstretch.parts.words import how_many_words
from bentstretch.rounds.lengths import lengths_of
from bentstretch.rounds.rounds import rounds_of
from bentstretch.rounds.ways import way_of
from bentstretch.whole import Desk
from tests.helper import grid, pair, some_maps

TENT = "map 0 0;1/2 1;1 0"
TENT_LINES = ["0 0", "1/2 1", "1 0"]
THREE = "map 0 1;1 2;2 0"
EIGHT = "map 0 0;1/7 1;2/7 0;3/7 1;4/7 0;5/7 1;6/7 0;1 1"
SEVEN = "map 0 0;1/6 1;1/3 0;1/2 1;2/3 0;5/6 1;1 0"
# Its knots are never led to knots: no parting of few points fits.
NO_PARTING = "map 0 0;1/2 9/10;1 0"


def desk_of(line):
    desk = Desk()
    desk.ask(line)
    return desk


def line_of(knots):
    return "map " + map_shown(knots).replace("\n", ";")


def fraction(one):
    """A fraction as the document writes it."""
    return str(Fraction(one[0], one[1]))


def row(fractions):
    return " ".join(fraction(one) for one in fractions)


class Told(unittest.TestCase):

    def told(self, desk, line, answer):
        asked = desk.ask(line)
        self.assertEqual(asked, answer, line)
        self.assertTrue(type(asked) is list and all(type(text) is str for text in asked))

    def test_a_new_desk(self):
        for line, answer in (
            ("show", ["0 0", "1 1"]), ("value 1/3", ["1/3"]), ("pieces", ["0 1 1"]), ("stays", ["0 1"]), ("comes 2/3", ["2/3 2/3"]),
            ("rounds 1", []), ("rounds 7", []), ("lengths 7", ["1"]), ("way 1/3 1", ["round 0 1"]), ("way 1/3 0", ["open"]),
            ("parting", ["0 1"]), ("words 5", ["1"]), ("mix 1", ["same"]), ("mix 2", ["less"]), ("mix 1/2", ["greater"]),
        ):
            self.told(Desk(), line, answer)

    def test_each_line(self):
        desk = Desk()
        for line, answer in (
            ("map 0 0;2/4 3/3;1 0", []), ("show", TENT_LINES), ("value 1/3", ["2/3"]), ("value 1", ["0"]), ("value 2/6", ["2/3"]),
            ("value 0/5", ["0"]), ("pieces", ["0 1/2 2", "1/2 1 -2"]), ("stays", ["0 0", "2/3 2/3"]), ("comes 1/2", ["1/4 1/4", "3/4 3/4"]),
            ("comes 1", ["1/2 1/2"]), ("rounds 1", ["0", "2/3"]), ("rounds 2", ["2/5 4/5"]), ("rounds 3", ["2/9 4/9 8/9", "2/7 4/7 6/7"]),
            ("lengths 1", ["1"]), ("lengths 7", ["1 2 3 4 5 6 7"]), ("way 1/7 40", ["round 1 3"]), ("way 1/7 4", ["round 1 3"]),
            ("way 1/7 3", ["open"]), ("way 1/7 0", ["open"]), ("way 0 1", ["round 0 1"]), ("parting", ["0 1/2 1"]), ("words 0", ["1"]),
            ("words 1", ["2"]), ("words 12", ["4096"]), ("mix 2", ["same"]), ("mix 4/2", ["same"]), ("mix 199/100", ["greater"]),
            ("mix 201/100", ["less"]), ("mix -1", ["greater"]), ("mix 0", ["greater"]), ("knot 1/4 1/2", []),
            ("show", ["0 0", "1/4 1/2", "1/2 1", "1 0"]), ("pieces", ["0 1/2 2", "1/2 1 -2"]), ("parting", ["0 1/2 1"]),
            ("knot 2/8 0/3", []), ("show", ["0 0", "1/4 0", "1/2 1", "1 0"]), ("stays", ["0 0", "1/3 1/3", "2/3 2/3"]),
            ("comes 0", ["0 1/4", "1 1"]), ("parting", ["0 1/4 1/2 1"]), ("words 2", ["6"]), ("words 3", ["12"]), ("knot 0 1", []), ("knot 1 1", []),
            ("show", ["0 1", "1/4 0", "1/2 1", "1 1"]), ("drop 1/2", []), ("show", ["0 1", "1/4 0", "1 1"]), ("drop 2/8", []),
            ("show", ["0 1", "1 1"]), ("stays", ["1 1"]), ("comes 1/2", []), ("mix 0", ["same"]), ("words 2", ["0"]), ("pieces", ["0 1 0"]),
            ("map -2 1;-1/2 -2;1 1", []), ("show", ["-2 1", "-1/2 -2", "1 1"]), ("value -4/2", ["1"]), ("value -5/4", ["-1/2"]),
            ("pieces", ["-2 -1/2 -2", "-1/2 1 2"]), ("stays", ["-1 -1", "1 1"]), ("drop -1/2", []), ("lengths 7", ["1"]),
            ("map 0 1;1 0", []), ("lengths 7", ["1 2"]), ("rounds 2", []), ("rounds 1", ["1/2"]), ("way 1/3 2", ["round 0 2"]),
        ):
            self.told(desk, line, answer)

    def test_no_parting(self):
        desk = desk_of(NO_PARTING)
        for line in ("parting", "words 0", "words 1", "words 12", "mix 0", "mix 1", "mix -7/3"):
            self.told(desk, line, ["none"])
        # Of thirteen points it is told, of fourteen not: the knots first, then what they lead to.
        long = "map 0 1;11 12;12 0"
        self.told(desk_of(long), "parting", ["0 1 2 3 4 5 6 7 8 9 10 11 12"])
        self.told(desk_of(long), "words 12", [str(how_many_words(tuple(
            tuple(1 if j == i + 1 or i == 11 else 0 for j in range(12)) for i in range(12)), 12))])
        self.told(desk_of("map 0 1;12 13;13 0"), "parting", ["none"])
        self.told(desk_of("map 0 1;12 13;13 0"), "words 3", ["none"])
        self.told(desk_of("map 0 1;12 13;13 0"), "mix 1", ["none"])

    def test_as_the_functions_tell(self):
        seen = 0
        for knots in some_maps(37, 40, 7, 4):
            desk = desk_of(line_of(knots))
            self.told(desk, "show", map_shown(knots).split("\n"))
            self.told(desk, "pieces", [row(piece) for piece in pieces_of(knots)])
            self.told(desk, "stays", [row(ends) for ends in stays_of(knots)])
            for at in grid(knots, 3):
                self.told(desk, f"value {at}", [fraction(value_of(knots, pair(at)))])
                self.told(desk, f"comes {at}", [row(ends) for ends in comes_to(knots, pair(at))])
                for many in (0, 3, 40):
                    way = way_of(knots, pair(at), many)
                    self.told(desk, f"way {at} {many}", ["open" if way[0] == "open" else f"round {way[1]} {way[2]}"])
            pieces = len(pieces_of(knots))
            for many in range(1, 8):
                if pieces ** many <= 130:
                    self.told(desk, f"rounds {many}", [row(points) for points in rounds_of(knots, many)])
                    self.told(desk, f"lengths {many}", [" ".join(str(length) for length in lengths_of(knots, many))])
            parting = least_parting(knots, 13)
            seen += parting is not None
            if parting is None:
                self.told(desk, "parting", ["none"])
                continue
            self.told(desk, "parting", [row(parting)])
            table = table_of(knots, parting)
            for many in range(13):
                self.told(desk, f"words {many}", [str(how_many_words(table, many))])
            for worth in ("0", "1", "3/2", "2", "5/2", "-3"):
                word = ("less", "same", "greater")[mix_with(table, pair(worth)) + 1]
                self.told(desk, f"mix {worth}", [word])
        self.assertTrue(5 < seen < 40, seen)

    def test_points_of_many_figures(self):
        desk = desk_of(TENT)
        self.told(desk, "value 1/1000000000000", ["1/500000000000"])
        self.told(desk, f"value 1/{10 ** 600}", [f"1/{5 * 10 ** 599}"])
        self.told(desk, f"value {10 ** 900}/{3 * 10 ** 900}", ["2/3"])
        self.told(desk, "mix 1999999999999/999999999999", ["less" if Fraction(1999999999999, 999999999999) > 2 else "greater"])

    def test_kept_at_its_limits(self):
        desk = Desk()
        self.told(desk, EIGHT, [])
        self.assertEqual(len(desk.ask("show")), 8)
        self.told(desk, "map -9999 9999;1/9999 -9998/9999;9999 -9999", [])
        self.told(desk, "show", ["-9999 9999", "1/9999 -9998/9999", "9999 -9999"])
        self.told(desk, "map 0 0;100000/200000 10000/10000;1 0", [])
        self.told(desk, "show", TENT_LINES)
        self.told(desk, "knot 10000/40000 12345/12345", [])
        self.told(desk, "knot 9998/9999 1/9999", [])
        self.told(desk, "show", ["0 0", "1/4 1", "1/2 1", "9998/9999 1/9999", "1 0"])

    def test_asked_by_name(self):
        desk = Desk()
        self.assertEqual(desk.ask(line=TENT), [])
        self.assertEqual(desk.ask(line="show"), TENT_LINES)

    def test_the_asker_owns_the_list(self):
        desk = desk_of(TENT)
        for line in ("show", "pieces", "stays", "value 0", "parting", "words 3", "mix 1", "way 0 3", "rounds 3", "lengths 3", "comes 1/2"):
            first = desk.ask(line)
            kept = list(first)
            first.append("more")
            self.assertEqual(desk.ask(line), kept)
        nothing = desk.ask(TENT)
        nothing.append("more")
        self.assertEqual(desk.ask(TENT), [])
        self.assertEqual(desk.ask("show"), TENT_LINES)

    def test_what_was_told_stays(self):
        desk = desk_of(TENT)
        told = desk.ask("show")
        desk.ask("knot 1/4 1/4")
        desk.ask(THREE)
        self.assertEqual(told, TENT_LINES)

    def test_two_desks_are_apart(self):
        one, other = Desk(), Desk()
        one.ask(TENT)
        self.assertEqual(other.ask("show"), ["0 0", "1 1"])
        other.ask("knot 1/3 0")
        self.assertEqual(one.ask("show"), TENT_LINES)
        self.assertEqual(other.ask("show"), ["0 0", "1/3 0", "1 1"])
        self.assertEqual(Desk().ask("show"), ["0 0", "1 1"])


class Refused(unittest.TestCase):

    def refused(self, begun, line, refusal, at=None):
        """The line is refused so, and the desk tells what it told before."""
        desk = desk_of(begun)
        before = desk.ask("show")
        with self.assertRaises(refusal) as caught:
            desk.ask(line)
        self.assertIs(type(caught.exception), refusal, line)
        if at is not None:
            self.assertEqual(caught.exception.row, at, line)
        self.assertEqual(desk.ask("show"), before)

    def test_other_lines(self):
        for line in (
            "", " ", "map", "Map 0 0;1 1", " map 0 0;1 1", "map\n0 0;1 1", "map;0 0;1 1", "maps 0 0;1 1", "mapping", "knot", "knot ", "knot 1/3",
            "knot 1/3 1/3 1/3", "knot  1/3 1/3", "knot 1/3  1/3", "knot 1/3 1/3 ", " knot 1/3 1/3", "drop", "drop ", "drop 1/2 ", "drop 1/2 1",
            "drop  1/2", "show ", " show", "show show", "Show", "SHOW", "show\n", "\nshow", "show 1", "value", "value ", "value 1/2 1/2",
            "value  1/2", "value 1/2 ", "value 1/2\n", "value\n1/2", "pieces ", "pieces 1", "piece", "stays ", "stays 1/2", "comes", "comes ",
            "comes 1/2 ", "comes 1/2 1/2", "rounds", "rounds ", "rounds 2 ", "rounds 2 2", "rounds  2", "lengths", "lengths ", "lengths 2 2",
            "way", "way 1/2", "way 1/2 ", "way 1/2 3 ", "way 1/2 3 3", "way  1/2 3", "way 1/2  3", "parting ", "parting 13", "partings", "words",
            "words ", "words 3 ", "words 3 3", "word 3", "mix", "mix ", "mix 2 ", "mix 2 2", "mixing 2", "turned 2", "quit", "help", "knots",
            "show;show", "show\nshow", "value 1/2;", "none", "fraction 1/2", "number 3", ";", "\n",
        ):
            self.refused(TENT, line, NoAsk)

    def test_no_fraction(self):
        for word in (
            "x", "1/0", "0/0", "1/", "/2", "1//2", "1/2/3", "01/2", "1/02", "00", "-0", "-0/3", "1/-2", "--1", "+1", "+1/2", "1.5", "0.5", "1,5",
            "- 1", "-", "/", "1/2x", "1_0", "1e0", "1/2\n", "\n1/2", "-01", "0x1", "1/+2",
        ):
            for line in (f"value {word}", f"comes {word}", f"way {word} 3", f"mix {word}", f"drop {word}", f"knot {word} 1/3", f"knot 1/3 {word}"):
                self.refused(TENT, line, NoAsk)
            self.refused(NO_PARTING, f"mix {word}", NoAsk)

    def test_no_number(self):
        for word in ("x", "-1", "01", "00", "+1", "1.0", "1/1", "2/2", "4/2", "-0", "1 ", "1\n", "", "one", "0x1", "1_0", "03"):
            for line in (f"rounds {word}", f"lengths {word}", f"way 1/2 {word}", f"words {word}"):
                self.refused(TENT, line, NoAsk)
            self.refused(NO_PARTING, f"words {word}", NoAsk)

    def test_many_at_its_limits(self):
        for begun, least, most in (
            ("map 0 0;1 1", 1, 7), (TENT, 1, 7), ("map 0 0;1/3 1;2/3 0;1 1", 1, 4), ("map 0 0;1/4 1;1/2 0;3/4 1;1 0", 1, 3),
            ("map 0 0;1/5 1;2/5 0;3/5 1;4/5 0;1 1", 1, 3), (SEVEN, 1, 2), (EIGHT, 1, 2), ("map 0 0;1/4 1/2;1/2 1;3/4 1/2;1 0", 1, 7),
            ("map 0 0;1/2 1/2;1 1", 1, 7),
        ):
            for word in ("rounds", "lengths"):
                desk = desk_of(begun)
                for many in range(least, most + 1):
                    self.assertIs(type(desk.ask(f"{word} {many}")), list)
                for many in [0] + list(range(most + 1, 12)) + [130, 10 ** 12, 10 ** 300]:
                    self.refused(begun, f"{word} {many}", NoAsk)
        desk = desk_of(TENT)
        for many in range(41):
            self.assertEqual(len(desk.ask(f"way 1/1000000007 {many}")), 1)
        for many in range(13):
            self.assertEqual(desk.ask(f"words {many}"), [str(2 ** many)])
        for line in ("way 1/3 41", "way 1/3 400", f"way 1/3 {10 ** 300}", "words 13", "words 40", f"words {10 ** 300}"):
            self.refused(TENT, line, NoAsk)
        self.refused(NO_PARTING, "words 13", NoAsk)

    def test_what_is_no_map(self):
        for text, at in (
            ("", 0), (" ", 0), ("0 0", 1), ("0 7", 1), ("0 0;", 1), (";0 0;1 1", 0), ("0 0;1 1;", 2), ("0 0;;1 1", 1), ("0 0; 1 1", 1),
            ("0 0 ;1 1", 0), ("0 0;1 1 ", 1), (" 0 0;1 1", 0), ("0  0;1 1", 0), ("0 0\n1 1", 0), ("0 0;1 1\n", 1), ("0 0;1\n1", 1),
            ("\n0 0;1 1", 0), ("0 0\n;1 1", 0), ("0 0;1/2 1\n1 0;2 2", 1), ("0 0;0 0", 1), ("1 1;0 0", 1), ("0 0;1 2", 1), ("0 -1;1 1", 0),
            ("0 0;1/2 2;1 3", 1), ("0 0;x;1 1", 1), ("0 0;1 1;1 1", 2), ("0 0;1 1;2/2 1", 2), ("0 00;1 1", 0), ("-0 0;1 1", 0), ("0 0;1 1/0", 1),
            ("show", 0), ("0 0;1 1;show", 2), ("0,0;1,1", 0), ("0 0:1 1", 0), ("0 0;1 5;x", 2), ("0 9;1 1;1 1", 2), ("map 0 0;1 1", 0),
            ("0 0 0;1 1", 0), ("~", 0), ("0 0;1 1;\n", 2),
        ):
            self.refused(TENT, "map " + text, NoMap, at)

    def test_too_great_a_map(self):
        nine = ";".join(f"{step} {step}" for step in range(9))
        for text in (
            nine, nine + ";9 9", "0 0;10000 10000", "0 0;1/10000 0;1 1", "0 0;1/2 1/10000;1 1", "-10000 0;1 1", "0 10001/10002;1 1",
            "0 0;9999/10000 0;1 1", "0 0;12345/12346 0;1 1", "0 0;1 1/10001", "-10001/2 0;1 1", "0 0;1 12345678901/12345678902",
        ):
            self.refused(TENT, "map " + text, NoMap, 0)
        # What is no map goes first, with its own row.
        for text, at in (
            (nine + ";8 8", 9), (nine + ";x", 9), (nine + ";9 10", 9), (nine.replace("4 4", "4 9"), 4), ("0 0;10000 10001", 1),
            ("0 0;1/10000 x;1 1", 1), ("10000 10000", 1), ("0 0;1/2 10000;1 1", 1), ("0 0;3 3;10000 10000;4 4", 3),
        ):
            self.refused(TENT, "map " + text, NoMap, at)

    def test_knots_of_many_figures(self):
        for line in (
            "knot 1/10000 1/2", "knot 1/2 1/10000", "knot 10000/10001 0", "knot 1/3 10000/10001", "knot 12345/23456 1", "knot 12345 0",
            "knot 0 -12345", "knot -12345 12345", "knot 1/12345678901234567890 0", "knot 10001/20000 0",
        ):
            self.refused(TENT, line, NoAsk)
        # Beyond the stretch, too: the figures are told first. In least numbers they count.
        self.refused(TENT, "knot 10000 7", NoAsk)
        self.refused(TENT, "knot 7 10000", NoAsk)
        self.refused(TENT, "knot 9999 1/2", NoPoint)
        self.refused(TENT, "knot 20000/10000 1/2", NoPoint)

    def test_points_outside(self):
        for line in (
            "value 2", "value -1", "value 1000000000001/1000000000000", "value -1/1000000000000", "value 10000", "comes 2", "comes -1/3",
            "way 2 0", "way -1 40", "knot 2 1", "knot -1 0", "knot 1/3 2", "knot 1/3 -1/9", "knot 1/2 2", "knot 0 -1", "knot 1 2", "knot 2 2",
            "drop 0", "drop 1", "drop 2", "drop -1", "drop 1/3", "drop 10000", "drop 1/10001",
        ):
            self.refused(TENT, line, NoPoint)
        self.refused("map 0 0;1 1", "drop 1/2", NoPoint)

    def test_a_ninth_knot(self):
        desk = desk_of(EIGHT)
        before = desk.ask("show")
        self.refused(EIGHT, "knot 1/2 1/2", NoAsk)
        self.refused(EIGHT, "knot 1/14 1/2", NoAsk)
        # Points outside go first, figures ahead of them.
        self.refused(EIGHT, "knot 2 1/2", NoPoint)
        self.refused(EIGHT, "knot 1/2 2", NoPoint)
        self.refused(EIGHT, "knot 1/10000 2", NoAsk)
        # One that is there is led, the first and the last too; behind a drop there is room.
        for at in ("0", "3/7", "6/14", "1"):
            self.assertEqual(desk.ask(f"knot {at} 1/2"), [])
        self.assertEqual(len(desk.ask("show")), 8)
        self.assertEqual(desk.ask("drop 1/7"), [])
        self.assertEqual(desk.ask("knot 1/14 1/2"), [])
        self.assertRaises(NoAsk, desk.ask, "knot 1/7 1/2")
        self.assertEqual(len(before), len(desk.ask("show")))

    def test_knots_are_counted_as_kept(self):
        # Knots at which the map goes straight on are knots, and pieces are not counted by them.
        desk = desk_of("map " + ";".join(f"{step} {step}" for step in range(8)))
        self.assertRaises(NoAsk, desk.ask, "knot 1/2 1/2")
        self.assertEqual(desk.ask("pieces"), ["0 7 1"])
        self.assertEqual(desk.ask("lengths 7"), ["1"])

    def test_of_several_the_first(self):
        for line, refusal in (
            ("way 2 41", NoAsk), ("way 2 x", NoAsk), ("way x 3", NoAsk), ("way 2 01", NoAsk), ("way 2 40", NoPoint), ("knot 2 x", NoAsk),
            ("knot x 2", NoAsk), ("knot 2 1/10000", NoAsk), ("drop 2 ", NoAsk), ("drop 02", NoAsk), ("value 2 ", NoAsk), ("comes 2/0", NoAsk),
        ):
            self.refused(TENT, line, refusal)

    def test_refused_changes_nothing_told_later(self):
        desk = desk_of(TENT)
        lines = ("show", "pieces", "stays", "rounds 3", "lengths 5", "parting", "words 4", "mix 2", "value 1/3", "way 1/9 9")
        before = [desk.ask(line) for line in lines]
        for line in ("map 0 0", "map ", "knot 2 2", "knot 1/3 5", "drop 0", "drop 1/3", "knot 1/10000 0", "rounds 8", "words 13", "hm", "map 0 0;1 2"):
            with self.assertRaises((NoAsk, NoMap, NoPoint)):
                desk.ask(line)
            self.assertEqual([desk.ask(asked) for asked in lines], before)


if __name__ == "__main__":
    unittest.main()
