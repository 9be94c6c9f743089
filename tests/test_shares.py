"""[32] and [33]: long shares of the parts of a parting, and the shares of stretches."""

import unittest
from fractions import Fraction
from random import Random

from bentstretch.errors import NoParting
from bentstretch.mix.shares import long_shares, share_of, share_twice, shares_shown
from bentstretch.parts.partings import least_parting
from tests.helper import grid, height, is_fraction, is_row, made, number, pair, points, some_maps, zigzag
from tests.test_classes import classes_seen

TENT = made("0 0", "1/2 1", "1 0")
STAYS = made("0 0", "1 1")
ABOUT = made("0 1", "1 0")
THREE = made("0 1", "1 2", "2 0")
DRAWN = made("0 0", "1 2", "2 1")
LEFT = made("0 1", "1 2", "2 1")
TWICE = made("0 0", "1/2 1", "1 0", "2 1", "3 3", "7/2 2", "4 3")
APART = made("0 0", "1/2 1", "1 0", "2 3", "3 2")
BEAT = made("0 2", "1 4", "2 2", "3 0", "4 2")
LEVEL = made("0 0", "1 1", "2 1", "3 3")
EVEN = points("0", "1", "2", "3", "4")
REFUSED = (
    (TENT, "0 1"), (TENT, "0 1/3 1/2 1"), (TENT, ""), (TENT, "0"), (TENT, "0 1/2"), (TENT, "1/2 1"), (TENT, "1 1/2 0"),
    (TENT, "0 1/2 1/2 1"), (STAYS, "0 1 2"), (STAYS, "0 1/2"), (LEVEL, "0 1 2 3"), (made("0 1", "1 1"), "0 1"),
    (made("0 0", "1 1", "2 1"), "0 1 2"), (made("0 2", "1 0", "2 0"), "0 1 2"), (THREE, "0 1/2 1 2"),
)


def parts_of(knots, parting):
    """For each part (low, high, low value, high value, length, slope without sign), as Fractions."""
    told = []
    for low, high in zip([number(point) for point in parting], [number(point) for point in parting[1:]]):
        one, other = height(knots, low), height(knots, high)
        told.append((low, high, min(one, other), max(one, other), high - low, abs(other - one) / (high - low)))
    return told


def keeps(knots, parting, shares):
    """Whether shares are long shares, by the document's words, part by part."""
    parts = parts_of(knots, parting)
    if len(shares) != len(parts) or min(shares) < 0 or sum(shares) != 1:
        return False
    for part, share in zip(parts, shares):
        total = 0
        for other, own in zip(parts, shares):
            if other[2] <= part[0] and part[1] <= other[3]:
                total += own / other[4] / other[5]
        if share / part[4] != total:
            return False
    return True


def table_seen(knots, parting):
    parts = parts_of(knots, parting)
    return tuple(tuple(int(one[2] <= other[0] and other[1] <= one[3]) for other in parts) for one in parts)


def finer(knots, parting, most=13):
    """A finer fitting parting: points that come to the points of one, as far as they all have room; or the parting."""
    more = {at for at in grid(knots, 24) if pair(height(knots, at)) in parting} | {number(point) for point in parting}
    return tuple(pair(at) for at in sorted(more)) if len(more) <= most else parting


def cases():
    """Maps and fitting partings of which no part is level."""
    told = [
        (TENT, points("0", "1/2", "1")), (THREE, points("0", "1", "2")), (TWICE, least_parting(TWICE, 13)), (BEAT, EVEN),
        (STAYS, points("0", "1/7", "1/2", "1")), (ABOUT, points("0", "1/3", "2/3", "1")), (DRAWN, points("0", "1", "2")),
        (APART, least_parting(APART, 13)), (zigzag(13), least_parting(zigzag(13), 13)), (LEFT, points("0", "1", "2")),
    ]
    for knots in some_maps(32, 260, 6, 4):
        parting = least_parting(knots, 13)
        if parting is not None and all(part[5] for part in parts_of(knots, parting)):
            told.append((knots, parting))
            told.append((knots, finer(knots, parting)))
    return told


CASES = cases()


def numbers(shares):
    return [number(share) for share in shares]


class LongShares(unittest.TestCase):

    def test_told(self):
        for knots, parting, told in (
            (TENT, "0 1/2 1", ["1/2 1/2"]), (TENT, "0 1/4 1/2 1", ["1/4 1/4 1/2"]), (STAYS, "0 1", ["1"]), (ABOUT, "0 1", ["1"]),
            (STAYS, "0 1/3 1", ["1 0", "0 1"]), (ABOUT, "0 1/3 2/3 1", ["1/2 0 1/2", "0 1 0"]), (THREE, "0 1 2", ["1/3 2/3"]),
            (DRAWN, "0 1 2", ["0 1"]), (LEFT, "0 1 2", ["0 1"]), (BEAT, "0 1 2 3 4", ["1/4 1/4 1/4 1/4"]), (APART, "0 1/2 1 4/3 5/3 2 3", ["1/2 1/2 0 0 0 0", "0 0 0 0 0 1"]),
            (made("0 1/2", "1/2 1", "1 0"), "0 1/2 1", ["1/3 2/3"]), (zigzag(4), "0 1/3 2/3 1", ["1/3 1/3 1/3"]),
            (made("0 0", "3/4 1", "1 0"), "0 3/4 1", ["3/4 1/4"]),
        ):
            asked = long_shares(knots, points(*parting.split()))
            self.assertEqual(asked, [points(*row.split()) for row in told], (knots, parting))
            self.assertIs(type(asked), list)

    def test_one_for_each_closed_class(self):
        many, beats, left = set(), set(), 0
        for knots, parting in CASES:
            table = table_seen(knots, parting)
            classes, closed, turns = classes_seen(table)
            told = long_shares(knots, parting)
            held = [members for members, shut in zip(classes, closed) if shut]
            self.assertEqual(len(told), len(held), (knots, parting))
            for members, shares in zip(held, told):
                self.assertTrue(is_row(shares, len(table)))
                self.assertTrue(keeps(knots, parting, numbers(shares)), (knots, parting))
                for part, share in enumerate(shares):
                    self.assertEqual(share[0] > 0, part in members, (knots, parting, members))
            many.add(len(held))
            beats |= {beat for beat, shut in zip(turns, closed) if shut}
            left += len(classes) > len(held)
        self.assertTrue(many >= {1, 2, 3} and beats >= {1, 2}, (many, beats))
        self.assertGreater(left, 5)

    def test_asker_owns_the_list(self):
        told = long_shares(STAYS, points("0", "1/3", "1"))
        told.clear()
        self.assertEqual(long_shares(STAYS, points("0", "1/3", "1")), [points("1", "0"), points("0", "1")])

    def test_great_figures(self):
        # Twelve parts, each laid over several: the figures are many, and still it is told at once.
        chance = Random(320)
        ats = sorted({Fraction(chance.randint(1, 9998), 9999 - step) for step in range(30)})[:12]
        ats = [Fraction(0)] + [at for at in ats if 0 < at < 1][:11] + [Fraction(1)]
        tos = [chance.choice(ats)]
        while len(tos) < len(ats):
            to = chance.choice(ats)
            tos += [to] if to != tos[-1] else []
        knots = tuple((pair(at), pair(to)) for at, to in zip(ats, tos))
        parting = tuple(pair(at) for at in ats)
        told = long_shares(knots, parting)
        self.assertTrue(told)
        for shares in told:
            self.assertTrue(keeps(knots, parting, numbers(shares)))
            self.assertIs(shares_shown(knots, parting, shares), True)

    def test_refused(self):
        for knots, parting in REFUSED:
            self.assertRaises(NoParting, long_shares, knots, points(*parting.split()))


class Shown(unittest.TestCase):

    def test_long_shares_and_mixtures(self):
        mixed = 0
        for knots, parting in CASES:
            rows = [numbers(row) for row in long_shares(knots, parting)]
            for row in rows:
                self.assertIs(shares_shown(knots, parting, tuple(pair(share) for share in row)), True)
            weights = [Fraction(2 * place + 1, len(rows) ** 2) for place in range(len(rows))]
            mixture = [sum(weight * row[part] for weight, row in zip(weights, rows)) for part in range(len(parting) - 1)]
            self.assertIs(shares_shown(knots, parting, tuple(pair(share) for share in mixture)), True)
            mixed += len(rows) > 1
        self.assertGreater(mixed, 5)

    def test_any_row(self):
        chance = Random(321)
        seen = {True: 0, False: 0}
        for knots, parting in CASES:
            size = len(parting) - 1
            rows = [numbers(row) for row in long_shares(knots, parting)]
            tries = [[Fraction(chance.randint(0, 4), 4) for part in range(size)] for step in range(3)]
            tries += [[Fraction(1, size)] * size, [Fraction(0)] * size, [Fraction(1)] + [Fraction(0)] * (size - 1)]
            parts = parts_of(knots, parting)
            tries.append([part[4] / (parts[-1][1] - parts[0][0]) for part in parts])
            tries += [[2 * share for share in row] for row in rows]
            tries += [row[1:] for row in rows] + [row + [Fraction(0)] for row in rows] + [row[::-1] for row in rows]
            if len(rows) > 1:
                tries.append([2 * one - other for one, other in zip(rows[0], rows[1])])
            for row in tries:
                has = bool(row) and keeps(knots, parting, row)
                seen[has] += 1
                self.assertIs(shares_shown(knots, parting, tuple(pair(share) for share in row)), has, (knots, parting, row))
        self.assertGreater(min(seen.values()), 40)

    def test_what_lacks_one_thing_alone(self):
        parting = points("0", "1/3", "1")
        for shares, told in (
            ("1/2 1/2", True), ("1 0", True), ("0 1", True), ("1/7 6/7", True), ("2 -1", False), ("-1/9 10/9", False), ("1/2 1/3", False),
            ("1 1", False), ("0 0", False), ("-1/2 -1/2", False), ("1", False), ("1/2 1/2 0", False), ("0 1/2 1/2", False), ("", False),
        ):
            self.assertIs(shares_shown(STAYS, parting, points(*shares.split())), told, shares)
        # Of sum 1, from 0 on, and no long shares.
        self.assertIs(shares_shown(TENT, points("0", "1/2", "1"), points("1/3", "2/3")), False)
        self.assertIs(shares_shown(THREE, points("0", "1", "2"), points("1/3", "2/3")), True)
        self.assertIs(shares_shown(THREE, points("0", "1", "2"), points("1/2", "1/2")), False)
        self.assertIs(shares_shown(DRAWN, points("0", "1", "2"), points("1", "0")), False)

    def test_refused_is_false(self):
        for knots, parting in REFUSED:
            many = len(parting.split()) - 1
            for shares in ([Fraction(1, many or 1)] * many, [Fraction(1)] + [Fraction(0)] * max(0, many - 1), []):
                self.assertIs(shares_shown(knots, points(*parting.split()), tuple(pair(share) for share in shares)), False)

    def test_level_part_with_a_share_of_0(self):
        self.assertIs(shares_shown(LEVEL, points("0", "1", "2", "3"), points("1", "0", "0")), False)


class Share(unittest.TestCase):

    def test_told(self):
        for parting, shares, low, high, told in (
            ("0 1/2 1", "1/3 2/3", "0", "1", "1"), ("0 1/2 1", "1/3 2/3", "0", "1/2", "1/3"), ("0 1/2 1", "1/3 2/3", "1/2", "1", "2/3"),
            ("0 1/2 1", "1/3 2/3", "1/4", "1/2", "1/6"), ("0 1/2 1", "1/3 2/3", "1/4", "3/4", "1/2"), ("0 1/2 1", "1/3 2/3", "1/3", "1/3", "0"),
            ("0 1/2 1", "1/3 2/3", "1/2", "1/2", "0"), ("0 1/2 1", "1/3 2/3", "0", "0", "0"), ("0 1/2 1", "1/3 2/3", "1", "1", "0"),
            ("0 1/2 1", "1/3 2/3", "1/8", "3/8", "1/6"), ("-2 -1 1 4", "1/2 0 1/2", "-3/2", "2", "5/12"), ("-2 -1 1 4", "1/2 0 1/2", "-1", "1", "0"),
            ("0 1", "1", "1/7", "3/7", "2/7"), ("-2 -1 1 4", "1/6 1/3 1/2", "-2", "4", "1"), ("-2 -1 1 4", "1/6 1/3 1/2", "0", "1/2", "1/12"),
        ):
            asked = share_of(points(*parting.split()), points(*shares.split()), pair(low), pair(high))
            self.assertEqual(asked, pair(told), (parting, shares, low, high))
            self.assertTrue(is_fraction(asked))

    def test_against_sums(self):
        for knots, parting in CASES[:60]:
            rows = [numbers(row) for row in long_shares(knots, parting)]
            size = len(parting) - 1
            rows.append([Fraction(2 * part + 1, size * size) for part in range(size)])
            ats = grid(knots, 5)
            for row in rows:
                shares = tuple(pair(share) for share in row)
                for low in ats:
                    for high in ats:
                        if low <= high:
                            self.assertEqual(share_of(parting, shares, pair(low), pair(high)), pair(self.seen(parting, row, low, high)))

    def seen(self, parting, row, low, high):
        def below(at):
            ends = [number(point) for point in parting]
            return sum(
                share * (min(max(at, one), other) - one) / (other - one) for share, one, other in zip(row, ends, ends[1:])
            )
        return below(high) - below(low)


class Twice(unittest.TestCase):

    def test_told(self):
        for knots, parting, shares, low, high, told in (
            (TENT, "0 1/2 1", "1/2 1/2", "1/4", "1/2", "1/4 1/4"), (TENT, "0 1/2 1", "1/3 2/3", "1/4", "1/2", "1/6 1/4"),
            (TENT, "0 1/2 1", "1 0", "1/4", "1/2", "1/2 1/4"), (TENT, "0 1/2 1", "1 0", "0", "1", "1 1"), (TENT, "0 1/2 1", "1 0", "1/3", "1/3", "0 0"),
            (THREE, "0 1 2", "1/3 2/3", "0", "1", "1/3 1/3"), (THREE, "0 1 2", "1/3 2/3", "1/2", "3/2", "1/2 1/2"),
            (THREE, "0 1 2", "1/2 1/2", "0", "1", "1/2 1/4"), (ABOUT, "0 1/3 2/3 1", "1 0 0", "0", "1/3", "1 0"),
            (DRAWN, "0 1 2", "1 0", "0", "1", "1 1/2"), (DRAWN, "0 1 2", "0 1", "0", "1", "0 0"),
        ):
            asked = share_twice(knots, points(*parting.split()), points(*shares.split()), pair(low), pair(high))
            self.assertEqual(asked, points(*told.split()), (knots, parting, shares, low, high))
            self.assertTrue(is_row(asked, 2))

    def test_alike_by_long_shares(self):
        for knots, parting in CASES:
            for shares in long_shares(knots, parting):
                ats = grid(knots, 3)
                for low in ats:
                    for high in ats:
                        if low <= high:
                            one, other = share_twice(knots, parting, shares, pair(low), pair(high))
                            self.assertEqual(one, other, (knots, parting, shares, low, high))
                            self.assertEqual(one, share_of(parting, shares, pair(low), pair(high)))

    def test_unlike_by_others(self):
        unlike = 0
        for knots, parting in CASES[:80]:
            size = len(parting) - 1
            row = [Fraction(2 * part + 1, size * size) for part in range(size)]
            shares = tuple(pair(share) for share in row)
            kept = keeps(knots, parting, row)
            pairs = []
            for low, high in zip(parting, parting[1:]):
                pairs.append(share_twice(knots, parting, shares, low, high))
                self.assertEqual(number(pairs[-1][1]), self.into(knots, parting, row, number(low), number(high)))
            # A part each: so they are alike just where the shares are long ones.
            self.assertEqual(all(one == other for one, other in pairs), kept)
            unlike += not kept
        self.assertGreater(unlike, 40)

    def into(self, knots, parting, row, low, high):
        """The share of what comes into a part: of each part laid over it, what one over its slope of its length is."""
        total = Fraction(0)
        for part, share in zip(parts_of(knots, parting), row):
            if part[2] <= low and high <= part[3]:
                total += share * (high - low) / part[5] / part[4]
        return total

    def test_several_pairs_come_into_it(self):
        knots = zigzag(13)
        parting = least_parting(knots, 13)
        shares = tuple(pair(Fraction(part, 66)) for part in range(12))
        self.assertEqual(share_twice(knots, parting, shares, pair("1/3"), pair("1/2")), points("9/66", "1/6"))


if __name__ == "__main__":
    unittest.main()
