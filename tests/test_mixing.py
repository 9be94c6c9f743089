"""[23] and [24]: the polynomial of a table, its mixing, and how many words lead round."""

import unittest
from fractions import Fraction
from itertools import permutations, product
from time import perf_counter

from bentstretch.mix.mixing import mix_between, mix_poly, mix_with, round_words, round_words_by
from bentstretch.parts.partings import least_parting, table_of
from tests.helper import is_row, is_whole, made, number, pair, square

GOLDEN = ((1, 1), (1, 0))
NINES = ((9,) * 12,) * 12
NOUGHTS = ((0,) * 12,) * 12
# Two same blocks side by side, and one that leads on to another like it: the greatest root is not a lone one.
TWICE = ((1, 1, 0, 0), (1, 0, 0, 0), (0, 0, 1, 1), (0, 0, 1, 0))
AND_ON = ((1, 1, 3, 0), (1, 0, 0, 2), (0, 0, 1, 1), (0, 0, 1, 0))
# Goes round in threes: two more roots lie as far from 0 as the greatest one.
IN_THREES = ((0, 2, 0), (0, 0, 3), (4, 0, 0))
CHAIN = tuple(tuple(int(j == i + 1) for j in range(12)) for i in range(12))
WHEEL = tuple(tuple(int(j == (i + 1) % 12) for j in range(12)) for i in range(12))


def some_tables():
    told = [square(seed, 1 + seed % 6, (1, 2, 9)[seed % 3]) for seed in range(60)]
    told += [square(seed, 12, (1, 9)[seed % 2]) for seed in range(6)]
    return told + [GOLDEN, NINES, NOUGHTS, TWICE, AND_ON, IN_THREES, CHAIN, WHEEL, ((0,),), ((9,),), ((0, 1), (0, 0))]


def sparse(seed):
    """A table with few numbers that are not 0."""
    table, mask = square(seed, 2 + seed % 5, 9), square(seed + 999, 2 + seed % 5, 3)
    return tuple(
        tuple(worth if keep == 0 else 0 for worth, keep in zip(row, others)) for row, others in zip(table, mask)
    )


def determinant(rows):
    """By Fractions, row by row."""
    rows = [[Fraction(worth) for worth in row] for row in rows]
    told = Fraction(1)
    for place in range(len(rows)):
        with_worth = [row for row in range(place, len(rows)) if rows[row][place]]
        if not with_worth:
            return Fraction(0)
        if with_worth[0] != place:
            rows[place], rows[with_worth[0]] = rows[with_worth[0]], rows[place]
            told = -told
        told *= rows[place][place]
        for row in range(place + 1, len(rows)):
            share = rows[row][place] / rows[place][place]
            rows[row] = [one - share * other for one, other in zip(rows[row], rows[place])]
    return told


def value(poly, at):
    told = Fraction(0)
    for worth in reversed(poly):
        told = told * at + worth
    return told


def trimmed(poly):
    poly = list(poly)
    while poly and poly[-1] == 0:
        poly.pop()
    return poly


def rest(one, other):
    """What is left of a polynomial by another one."""
    one = [Fraction(worth) for worth in one]
    while len(one) >= len(other):
        share = one[-1] / other[-1]
        shift = len(one) - len(other)
        one = [worth - (share * other[place - shift] if place >= shift else 0) for place, worth in enumerate(one)]
        one.pop()
    return trimmed(one)


def changes(worths):
    signs = [worth > 0 for worth in worths if worth != 0]
    return sum(one != other for one, other in zip(signs, signs[1:]))


def root_seen(poly, at):
    """The greatest real root compared with a Fraction, by counting the roots beyond it (Sturm)."""
    poly = [Fraction(worth) for worth in poly]
    met = False
    while len(poly) > 1 and value(poly, at) == 0:
        met = True
        quotient = [Fraction(0)] * (len(poly) - 1)
        carried = Fraction(0)
        for place in range(len(poly) - 1, 0, -1):
            carried = poly[place] + carried * at
            quotient[place - 1] = carried
        poly = quotient
    chain = [poly, trimmed([worth * power for power, worth in enumerate(poly)][1:])]
    while chain[-1]:
        chain.append([-worth for worth in rest(chain[-2], chain[-1])])
    chain.pop()
    beyond = changes([value(one, at) for one in chain]) - changes([one[-1] for one in chain])
    return 1 if beyond else 0 if met else -1


class Polynomials(unittest.TestCase):

    def test_told(self):
        for table, told in (
            (((0,),), (0, 1)), (((9,),), (-9, 1)), (((1,),), (-1, 1)), (GOLDEN, (-1, -1, 1)), (((1, 1), (1, 1)), (0, -2, 1)),
            (((0, 1), (0, 0)), (0, 0, 1)), (((1, 2), (3, 4)), (-2, -5, 1)), (IN_THREES, (-24, 0, 0, 1)),
            (TWICE, (1, 2, -1, -2, 1)), (AND_ON, (1, 2, -1, -2, 1)), (NOUGHTS, (0,) * 12 + (1,)),
            (NINES, (0,) * 11 + (-108, 1)), (CHAIN, (0,) * 12 + (1,)), (WHEEL, (-1,) + (0,) * 11 + (1,)),
        ):
            self.assertEqual(mix_poly(table), told, table)

    def test_against_determinants(self):
        for table in some_tables():
            poly = mix_poly(table)
            self.assertTrue(type(poly) is tuple and all(is_whole(worth) for worth in poly))
            self.assertEqual((len(poly), poly[-1]), (len(table) + 1, 1))
            for at in range(-1, len(table)):
                rows = [[(at if i == j else 0) - worth for j, worth in enumerate(row)] for i, row in enumerate(table)]
                self.assertEqual(value(poly, at), determinant(rows), (table, at))

    def test_the_same_by_other_names(self):
        table = square(77, 4, 9)
        for order in permutations(range(4)):
            self.assertEqual(mix_poly(tuple(tuple(table[i][j] for j in order) for i in order)), mix_poly(table))


class Between(unittest.TestCase):

    def told(self, table, width):
        told = mix_between(table, pair(width))
        self.assertTrue(is_row(told, 2))
        low, high = number(told[0]), number(told[1])
        self.assertGreaterEqual(low, 0)
        self.assertLessEqual(low, high)
        self.assertLessEqual(high - low, Fraction(width))
        self.assertGreaterEqual(root_seen(mix_poly(table), low), 0, (table, width))
        self.assertLessEqual(root_seen(mix_poly(table), high), 0, (table, width))
        self.assertGreaterEqual(mix_with(table, told[0]), 0)
        self.assertLessEqual(mix_with(table, told[1]), 0)
        return low, high

    def test_widths(self):
        for table in (GOLDEN, NINES, NOUGHTS, TWICE, AND_ON, IN_THREES, CHAIN, WHEEL, ((0,),), ((9,),), ((4, 3), (2, 1))):
            for width in ("1/999999999999", "3/7", "1", "108", "999999999999", "999999999998/999999999999"):
                self.told(table, width)

    def test_some_tables(self):
        for table in some_tables():
            self.told(table, "1/1000")
        for seed in range(60):
            self.told(sparse(seed), "1/100000")

    def test_known_ones(self):
        low, high = self.told(GOLDEN, "1/1000000")
        self.assertLess(abs(low - Fraction(1618034, 1000000)), Fraction(1, 500000))
        low, high = self.told(NINES, "1/1000000")
        self.assertTrue(low <= 108 <= high)
        for table in (NOUGHTS, CHAIN, ((0,),), ((0, 1), (0, 0))):
            low, high = self.told(table, "1/1000000")
            self.assertEqual(low, 0)

    def test_within_seconds(self):
        for table in (NINES, square(5, 12, 9), square(6, 12, 1)):
            start = perf_counter()
            mix_between(table, pair("1/999999999999"))
            self.assertLess(perf_counter() - start, 2)


class Compared(unittest.TestCase):

    def test_told(self):
        for table, fraction, told in (
            (((0,),), "-1", 1), (((0,),), "-1/999999999999", 1), (((0,),), "0", 0), (((0,),), "1/999999999999", -1),
            (NOUGHTS, "0", 0), (NOUGHTS, "-5", 1), (NOUGHTS, "5", -1), (CHAIN, "0", 0), (CHAIN, "1/7", -1),
            (((9,),), "9", 0), (((9,),), "8999999999/1000000000", 1), (((9,),), "9000000001/1000000000", -1),
            (GOLDEN, "0", 1), (GOLDEN, "1", 1), (GOLDEN, "2", -1), (GOLDEN, "-1", 1), (GOLDEN, "-3/5", 1),
            (GOLDEN, "832040/514229", 1), (GOLDEN, "1346269/832040", -1), (GOLDEN, "365435296162/225851433717", -1),
            (GOLDEN, "591286729879/365435296162", 1), (TWICE, "832040/514229", 1), (TWICE, "1346269/832040", -1),
            (AND_ON, "832040/514229", 1), (AND_ON, "1346269/832040", -1), (WHEEL, "1", 0), (WHEEL, "999999999998/999999999999", 1),
            (WHEEL, "999999999999/999999999998", -1), (IN_THREES, "2", 1), (IN_THREES, "3", -1), (IN_THREES, "288449/100000", 1),
            (IN_THREES, "2884500/1000000", -1), (NINES, "108", 0), (NINES, "107999999999/1000000000", 1),
            (NINES, "108000000001/1000000000", -1), (((1, 1), (1, 1)), "2", 0), (((1, 1), (1, 1)), "0", 1),
            (((2, 0), (0, 3)), "2", 1), (((2, 0), (0, 3)), "5/2", 1), (((2, 0), (0, 3)), "3", 0), (((3, 1), (0, 3)), "3", 0),
            # 1 is met by two roots, and 2 lies beyond them.
            (((1, 0, 0), (0, 1, 0), (0, 0, 2)), "1", 1), (((0, 1), (1, 0)), "0", 1), (((0, 1), (1, 0)), "1", 0),
            (((0, 1), (1, 0)), "-1", 1),
        ):
            told_now = mix_with(table, pair(fraction))
            self.assertEqual(told_now, told, (table, fraction))
            self.assertTrue(is_whole(told_now))
            self.assertEqual(root_seen(mix_poly(table), Fraction(fraction)), told)

    def test_against_roots_counted(self):
        some = {-1: 0, 0: 0, 1: 0}
        for table in [square(seed, 1 + seed % 4, (1, 2, 9)[seed % 3]) for seed in range(40)] + [sparse(seed) for seed in range(60)]:
            poly = mix_poly(table)
            most = max(sum(row) for row in table)
            for at in [Fraction(step, 2) for step in range(-2, 2 * most + 3)]:
                told = mix_with(table, pair(at))
                self.assertEqual(told, root_seen(poly, at), (table, at))
                some[told] += 1
        self.assertGreater(min(some.values()), 30)

    def test_a_fraction_is_never_met(self):
        for table in some_tables():
            for fraction in ("1/2", "13/8", "144/89", "217/2"):
                self.assertNotEqual(mix_with(table, pair(fraction)), 0)

    def test_just_beside_it(self):
        for table in some_tables():
            low, high = mix_between(table, pair("1/999999999999"))
            self.assertEqual(mix_with(table, pair(number(high) + 1)), -1)
            self.assertEqual(mix_with(table, pair(number(low) - 1)), 1)
            self.assertEqual(mix_with(table, pair(number(high) + Fraction(1, 10 ** 12))), -1)
            self.assertEqual(mix_with(table, pair(number(low) - Fraction(1, 10 ** 12))), 1)


class RoundWords(unittest.TestCase):

    def test_told(self):
        for table, told in (
            (GOLDEN, [1, 3, 4, 7, 11, 18, 29, 47, 76, 123]), (((0,),), [0] * 10), (((3,),), [3 ** many for many in range(1, 11)]),
            (((1, 1), (1, 1)), [2 ** many for many in range(1, 11)]), (WHEEL, [0] * 10), (IN_THREES, [0, 0, 72, 0, 0, 1728]),
        ):
            for many, words in enumerate(told, 1):
                self.assertEqual(round_words(table, many), words, (table, many))
                self.assertEqual(round_words_by(mix_poly(table), many), words, (table, many))
        self.assertEqual([round_words(IN_THREES, many) for many in (3, 6, 9, 39)], [72, 1728, 41472, 3 * 24 ** 13])
        self.assertEqual([round_words(WHEEL, many) for many in (11, 12, 13, 24, 36)], [0, 12, 0, 12, 12])

    def test_against_the_table_multiplied(self):
        for table in some_tables():
            poly = mix_poly(table)
            power = [list(row) for row in table]
            for many in range(1, 41):
                corner = sum(power[place][place] for place in range(len(table)))
                # Of the great tables each third number of letters is enough: each asking multiplies anew.
                if len(table) < 12 or many % 3 == 1:
                    self.assertEqual(round_words(table, many), corner, (table, many))
                self.assertEqual(round_words_by(poly, many), corner, (table, many))
                power = [[sum(one * other for one, other in zip(row, column)) for column in zip(*table)] for row in power]

    def test_against_each_word(self):
        for seed in range(10):
            table = square(seed, 1 + seed % 3, 3)
            for many in range(1, 6):
                total = 0
                for word in product(range(len(table)), repeat=many):
                    worth = 1
                    for one, other in zip(word, word[1:] + word[:1]):
                        worth *= table[one][other]
                    total += worth
                self.assertEqual(round_words(table, many), total)
                self.assertEqual(round_words_by(mix_poly(table), many), total)

    def test_whole_numbers(self):
        for many in (1, 2, 40):
            self.assertTrue(is_whole(round_words(GOLDEN, many)) and is_whole(round_words_by((-1, -1, 1), many)))
        self.assertEqual(round_words(NINES, 40), 108 ** 40)
        self.assertEqual(round_words_by(mix_poly(NINES), 40), 108 ** 40)


class TablesOfMaps(unittest.TestCase):

    def test_told_tables_go_on(self):
        knots = made("0 1", "1 2", "2 0")
        table = table_of(knots, least_parting(knots, 13))
        self.assertEqual(mix_poly(table), (-1, -1, 1))
        self.assertEqual(mix_with(table, pair("1618/1000")), 1)
        self.assertEqual([round_words(table, many) for many in range(1, 6)], [1, 3, 4, 7, 11])


if __name__ == "__main__":
    unittest.main()
