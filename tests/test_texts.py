"""[4] and [2]: maps read and written, and which row a refusal keeps."""

import unittest

from bentstretch.errors import NoAsk, NoLoop, NoMap, NoParting, NoPoint, StretchError
from bentstretch.maps.texts import map_shown, read_map
from tests.helper import are_rows, made, some_maps

NO_KNOTS = (
    "", " ", "0", "0 ", " 0", "0  0", " 0 0", "0 0 ", "0 0 0", "00 0", "0 00", "01 1", "1 01", "1/02 0", "0 1/02",
    "-0 0", "0 -0", "-0/3 0", "0 -0/3", "1/-2 0", "0 1/-2", "-1/-2 0", "1/ 0", "0 1/", "/2 0", "0 /2", "/ 0",
    "- 0", "0 -", "-/2 0", "1/0 0", "0 1/0", "0 0/0", "0/00 0", "-01 0", "0 -01", "--1 0", "+1 0", "0 +1",
    "1.0 0", "0 1.5", "1e0 0", "1_0 0", "0x1 0", "a 0", "0 a", "0,0", "0\t0", "0 0\t", "0 0;", "1/2/3 0", "0 ~",
    "1/+2 0", "- 1 0", "1 /2 0", "1/ 2 0", "-", "/", "(0, 1) 0", "0 0\r", "#", "0 1/1/1",
)


class Read(unittest.TestCase):

    def row_of(self, text):
        with self.assertRaises(NoMap) as caught:
            read_map(text)
        self.assertIs(type(caught.exception.row), int)
        return caught.exception.row

    def test_maps(self):
        for text, knots in (
            ("0 0\n1 1", (((0, 1), (0, 1)), ((1, 1), (1, 1)))),
            ("0 0\n1/2 1\n1 0", (((0, 1), (0, 1)), ((1, 2), (1, 1)), ((1, 1), (0, 1)))),
            ("-3/2 -1\n-1 2/3\n7 -3/2", (((-3, 2), (-1, 1)), ((-1, 1), (2, 3)), ((7, 1), (-3, 2)))),
            ("-9 -5\n-5 -9", (((-9, 1), (-5, 1)), ((-5, 1), (-9, 1)))),
            ("10 20\n20 10", (((10, 1), (20, 1)), ((20, 1), (10, 1)))),
            ("1/9999 1\n9999/2 9998/9999", (((1, 9999), (1, 1)), ((9999, 2), (9998, 9999)))),
        ):
            self.assertEqual(read_map(text), knots)
            self.assertTrue(are_rows(tuple(read_map(text)), 2))

    def test_not_in_least_numbers(self):
        text = "0/5 0/1\n6/4 3/1\n3/1 30/20"
        self.assertEqual(read_map(text), (((0, 1), (0, 1)), ((3, 2), (3, 1)), ((3, 1), (3, 2))))
        self.assertEqual(read_map("-6/4 -2/4\n0/7 -10/10"), (((-3, 2), (-1, 2)), ((0, 1), (-1, 1))))
        for knot in read_map(text):
            self.assertTrue(are_rows((knot,), 2))

    def test_knots_that_go_straight_on_are_kept(self):
        text = "0 0\n1/4 1/4\n1/2 1/2\n1 1"
        self.assertEqual(len(read_map(text)), 4)
        self.assertEqual(map_shown(read_map(text)), text)

    def test_what_is_no_knot(self):
        for line in NO_KNOTS:
            self.assertEqual(self.row_of(line), 0, repr(line))
            self.assertEqual(self.row_of(line + "\n0 0\n1 1"), 0, repr(line))
            self.assertEqual(self.row_of("-5 0\n" + line + "\n5 1"), 1, repr(line))
            self.assertEqual(self.row_of("-5 0\n-4 1\n" + line), 2, repr(line))

    def test_empty_lines(self):
        self.assertEqual(self.row_of(""), 0)
        self.assertEqual(self.row_of("\n"), 0)
        self.assertEqual(self.row_of("\n0 0\n1 1"), 0)
        self.assertEqual(self.row_of("0 0\n\n1 1"), 1)
        self.assertEqual(self.row_of("0 0\n1 1\n"), 2)
        self.assertEqual(self.row_of("0 0\n"), 1)

    def test_at_that_does_not_rise(self):
        self.assertEqual(self.row_of("0 0\n0 1\n1 1"), 1)
        self.assertEqual(self.row_of("0 0\n1 1\n1/2 0"), 2)
        self.assertEqual(self.row_of("0 0\n1/2 0\n2/4 1\n1 1"), 2)
        self.assertEqual(self.row_of("1 1\n0 0"), 1)
        self.assertEqual(self.row_of("-1 0\n-2 0\n0 0"), 1)
        self.assertEqual(self.row_of("1/3 1/3\n1/4 1/3"), 1)

    def test_the_first_of_both_kinds(self):
        self.assertEqual(self.row_of("0 0\n0 1\nx\n1 1"), 1)
        self.assertEqual(self.row_of("0 0\nx\n0 1\n1 1"), 1)
        self.assertEqual(self.row_of("0 0\n1 1\n1/2 x\n0 0"), 2)
        self.assertEqual(self.row_of("0 0\n1 1\n1/2 0\nx"), 2)
        self.assertEqual(self.row_of("x\n0 0\n0 0"), 0)

    def test_to_outside_of_the_stretch(self):
        self.assertEqual(self.row_of("0 -1\n1 1"), 0)
        self.assertEqual(self.row_of("0 2\n1 1"), 0)
        self.assertEqual(self.row_of("0 0\n1 -1/1000"), 1)
        self.assertEqual(self.row_of("0 0\n1/2 1001/1000\n1 5"), 1)
        self.assertEqual(self.row_of("0 0\n1/2 1\n1 5"), 2)
        self.assertEqual(self.row_of("2 0\n3 3"), 0)

    def test_to_outside_comes_behind_the_others(self):
        self.assertEqual(self.row_of("0 9\n1 1\nx"), 2)
        self.assertEqual(self.row_of("0 9\n1 1\n1 0"), 2)
        self.assertEqual(self.row_of("0 9\n1 1\n"), 2)

    def test_a_to_is_let_at_both_ends(self):
        self.assertEqual(read_map("0 1\n1 0"), made("0 1", "1 0"))

    def test_a_single_knot(self):
        for line in ("0 0", "0 5", "5 0", "-1/2 7", "6/4 6/4", "0/9 0"):
            self.assertEqual(self.row_of(line), 1, line)

    def test_who_takes_the_refusal(self):
        for kind in (NoMap, StretchError, ValueError):
            with self.assertRaises(kind):
                read_map("")
        for kind in (NoPoint, NoLoop, NoParting, NoAsk):
            with self.assertRaises(NoMap):
                try:
                    read_map("")
                except kind:
                    self.fail(kind)

    def test_by_name(self):
        self.assertEqual(read_map(text="0 0\n1 1"), made("0 0", "1 1"))
        self.assertEqual(map_shown(knots=made("0 0", "1 1")), "0 0\n1 1")

    def test_the_same_again(self):
        text = "0 0\n2/4 1\n1 0"
        first = read_map(text)
        self.assertEqual(self.row_of("0 0\nx"), 1)
        read_map("-7 -7\n9 9")
        map_shown(made("-1 0", "1 1"))
        self.assertEqual(read_map(text), first)
        self.assertEqual(self.row_of("0 0\nx"), 1)
        self.assertEqual(first, made("0 0", "1/2 1", "1 0"))


class Shown(unittest.TestCase):

    def test_lines(self):
        self.assertEqual(map_shown(made("0 0", "1 1")), "0 0\n1 1")
        self.assertEqual(map_shown(made("-3/2 -1", "-1 2/3", "7 -3/2")), "-3/2 -1\n-1 2/3\n7 -3/2")

    def test_least_numbers(self):
        self.assertEqual(map_shown(read_map("0/5 0/1\n6/4 3/1\n3/1 30/20")), "0 0\n3/2 3\n3 3/2")

    def test_read_as_just_that_map(self):
        for knots in some_maps(4, 60, 8):
            text = map_shown(knots)
            self.assertEqual(read_map(text), knots)
            self.assertEqual(map_shown(read_map(text)), text)
            self.assertFalse(text.endswith("\n"))
            self.assertEqual(text.count("\n"), len(knots) - 1)
            self.assertEqual(text.count(" "), len(knots))
            self.assertNotIn("/1 ", text + " ")

    def test_great_figures_are_written_and_read(self):
        great = 10 ** 5000 + 1
        knots = (((0, 1), (1, great)), ((1, 1), (great - 2, great)))
        text = map_shown(knots)
        figures = "1" + "0" * 4999 + "1"
        self.assertTrue(text.startswith("0 1/" + figures + "\n1 "))
        self.assertEqual(read_map(text), knots)


if __name__ == "__main__":
    unittest.main()
