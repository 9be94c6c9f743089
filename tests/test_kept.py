"""[34]: kept maps, their knots put in, taken out and led."""

import unittest
from fractions import Fraction
from random import Random

from bentstretch.errors import NoPoint
from bentstretch.kept import KeptMap
from tests.helper import are_rows, grid, height, hung_together, is_fraction, lines_of, made, number, pair, some_maps, spans, stays_on

TENT = made("0 0", "1/2 1", "1 0")
STAYS = made("0 0", "1 1")
OUTSIDE = ("-1", "-1/1000000000000", "1000000000001/1000000000000", "2")


def changed(knots, name, point, to):
    """What a change makes of a map, taken without the program: the map, or None where it is refused."""
    low, high = number(knots[0][0]), number(knots[-1][0])
    table = {number(at): number(value) for at, value in knots}
    inside = low <= point <= high and (name == "take" or low <= to <= high)
    if name == "put":
        let = inside and point not in table
    elif name == "lead":
        let = inside and point in table
    else:
        let = point in table and low < point < high
    if not let:
        return None
    if name == "take":
        del table[point]
    else:
        table[point] = to
    return tuple((pair(at), pair(table[at])) for at in sorted(table))


def stays_seen(knots):
    """What stays, taken without the program."""
    return hung_together([ends for line in lines_of(knots) for ends in stays_on(line)])


def asked(kept, name, point, to):
    """A change asked of a kept map."""
    if name == "put":
        return kept.put_knot(pair(point), pair(to))
    if name == "lead":
        return kept.lead_knot(pair(point), pair(to))
    return kept.take_knot(pair(point))


class Kept(unittest.TestCase):

    def look(self, kept, knots):
        """A kept map stands as a map: all that it tells is looked at."""
        self.assertEqual(kept.knots_now(), knots)
        self.assertTrue(are_rows(kept.knots_now(), 2))
        for at in grid(knots, 4):
            told = kept.value_now(pair(at))
            self.assertEqual(number(told), height(knots, at))
            self.assertTrue(is_fraction(told))
        self.assertEqual(kept.stays_now(), stays_seen(knots))

    def test_begins_as_a_map(self):
        for knots in some_maps(34, 30, 8):
            self.look(KeptMap(knots), knots)
        more = made("0 0", "1/4 1/2", "1/2 1", "3/4 1/2", "1 0")
        self.assertEqual(KeptMap(more).knots_now(), more)

    def test_told(self):
        kept = KeptMap(TENT)
        self.assertIsNone(kept.put_knot(pair("1/4"), pair("1/4")))
        self.look(kept, made("0 0", "1/4 1/4", "1/2 1", "1 0"))
        self.assertEqual(kept.stays_now(), spans("0 1/4", "2/3"))
        self.assertIsNone(kept.lead_knot(pair("1/2"), pair("0")))
        self.look(kept, made("0 0", "1/4 1/4", "1/2 0", "1 0"))
        self.assertEqual(kept.stays_now(), spans("0 1/4"))
        self.assertIsNone(kept.lead_knot(pair("0"), pair("1")))
        self.assertIsNone(kept.lead_knot(pair("1"), pair("1")))
        self.look(kept, made("0 1", "1/4 1/4", "1/2 0", "1 1"))
        self.assertIsNone(kept.take_knot(pair("1/4")))
        self.look(kept, made("0 1", "1/2 0", "1 1"))
        self.assertIsNone(kept.lead_knot(pair("1/2"), pair("0")))
        self.look(kept, made("0 1", "1/2 0", "1 1"))
        self.assertIsNone(kept.put_knot(pair("1/4"), pair("1/2")))
        self.look(kept, made("0 1", "1/4 1/2", "1/2 0", "1 1"))
        kept.take_knot(pair("1/4"))
        kept.take_knot(pair("1/2"))
        self.look(kept, made("0 1", "1 1"))
        kept.put_knot(pair("1/1000000"), pair("0"))
        self.look(kept, made("0 1", "1/1000000 0", "1 1"))

    def test_refused_and_unchanged(self):
        kept = KeptMap(TENT)
        for change, row in (
            (kept.put_knot, [(at, "1/2") for at in OUTSIDE + ("0", "1/2", "1")]),
            (kept.put_knot, [("1/3", to) for to in OUTSIDE] + [("1/2", "1"), ("1/2", "2"), ("0", "0"), ("7", "7")]),
            (kept.lead_knot, [(at, "1/2") for at in OUTSIDE + ("1/3", "1/4", "999/1000")]),
            (kept.lead_knot, [(at, to) for at in ("0", "1/2", "1", "1/3") for to in OUTSIDE]),
            (kept.take_knot, [(at,) for at in OUTSIDE + ("0", "1", "1/3", "1/4")]),
            (kept.value_now, [(at,) for at in OUTSIDE]),
        ):
            for words in row:
                self.assertRaises(NoPoint, change, *[pair(word) for word in words])
                self.look(kept, TENT)
        self.assertIsNone(kept.lead_knot(pair("1/2"), pair("1")))
        self.look(kept, TENT)

    def test_two_knots_are_not_taken_out(self):
        kept = KeptMap(STAYS)
        for at in ("0", "1", "1/2"):
            self.assertRaises(NoPoint, kept.take_knot, pair(at))
        self.look(kept, STAYS)

    def test_changes_in_any_order(self):
        chance = Random(340)
        let = {name: 0 for name in ("put", "lead", "take")}
        refused = dict(let)
        for knots in some_maps(341, 25, 5):
            kept = KeptMap(knots)
            low, high = number(knots[0][0]), number(knots[-1][0])
            earlier = []
            for step in range(40):
                name = chance.choice(sorted(let))
                ats = [number(at) for at, to in knots]
                point = chance.choice(ats) if chance.randint(0, 1) else low + (high - low) * Fraction(chance.randint(-1, 25), 24)
                to = low + (high - low) * Fraction(chance.randint(-1, 13), 12)
                if name == "put" and len(knots) == 12:
                    continue
                told = changed(knots, name, point, to)
                if told is None:
                    self.assertRaises(NoPoint, asked, kept, name, point, to)
                    refused[name] += 1
                else:
                    self.assertIsNone(asked(kept, name, point, to))
                    let[name] += 1
                    knots = told
                self.look(kept, knots)
                earlier.append((kept.knots_now(), repr(knots)))
            for now, written in earlier:
                self.assertEqual(repr(now), written)
        self.assertGreater(min(min(let.values()), min(refused.values())), 40)

    def test_twelve_knots(self):
        kept = KeptMap(STAYS)
        for step in (5, 1, 10, 2, 9, 3, 8, 4, 7, 6):
            kept.put_knot(pair(Fraction(step, 11)), pair(step % 2))
        knots = tuple((pair(Fraction(step, 11)), pair(step % 2)) for step in range(12))
        self.look(kept, knots)
        for step in (1, 3, 5, 7, 9, 2, 4, 6, 8, 10):
            kept.take_knot(pair(Fraction(step, 11)))
        self.look(kept, STAYS)

    def test_two_of_one_map_are_apart(self):
        one, other = KeptMap(TENT), KeptMap(TENT)
        one.put_knot(pair("1/3"), pair("1/3"))
        one.take_knot(pair("1/2"))
        self.look(other, TENT)
        other.lead_knot(pair("0"), pair("1"))
        self.look(one, made("0 0", "1/3 1/3", "1 0"))
        self.look(other, made("0 1", "1/2 1", "1 0"))
        third = KeptMap(one.knots_now())
        third.take_knot(pair("1/3"))
        self.look(one, made("0 0", "1/3 1/3", "1 0"))
        self.assertEqual(TENT, made("0 0", "1/2 1", "1 0"))


if __name__ == "__main__":
    unittest.main()
