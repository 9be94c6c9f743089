"""[30] and [31]: parts that lead on, their classes and beats, and when all is reached from all."""

import unittest
from itertools import product
from math import gcd
from random import Random

from bentstretch.mix.classes import all_reached, classes_of
from bentstretch.parts.partings import least_parting, table_of
from tests.helper import is_whole, made, square, zigzag

ALL_TWO = ((1, 1), (1, 1))
GOLDEN = ((1, 1), (1, 0))


def ring(size, more=()):
    """A table of parts that lead round, with more places that are not 0."""
    places = {(part, (part + 1) % size) for part in range(size)} | set(more)
    return tuple(tuple(1 if (i, j) in places else 0 for j in range(size)) for i in range(size))


def led(table, parts):
    """The parts to which one letter more leads from any of some."""
    return {other for part in parts for other, worth in enumerate(table[part]) if worth != 0}


def reached(table, part):
    """All parts to which a part leads."""
    told = led(table, {part})
    while led(table, told) - told:
        told |= led(table, told)
    return told


def classes_seen(table):
    """What classes_of is to tell, taken from ways one by one."""
    size = len(table)
    reach = [reached(table, part) for part in range(size)]
    classes = sorted({
        tuple(sorted(other for other in reach[part] if part in reach[other])) for part in range(size) if part in reach[part]
    })
    closed = tuple(all(reach[part] <= set(members) for part in members) for members in classes)
    beats = []
    for members in classes:
        beat = 0
        for part in members:
            spot = {part}
            # A way round through a class is put together from ways of no more letters than it has parts.
            for long in range(1, size + 1):
                spot = led(table, spot)
                beat = gcd(beat, long) if part in spot else beat
        beats.append(beat)
    return (tuple(classes), closed, tuple(beats))


def turns_seen(table, most):
    """The least number of turns by which all is reached from all, to most, by words of one letter more each time."""
    size = len(table)
    spots = [{part} for part in range(size)]
    for many in range(1, most + 1):
        spots = [led(table, spot) for spot in spots]
        if all(len(spot) == size for spot in spots):
            return many
    return None


def thin(seed, rows, share, most=9):
    """A table of which about one place of so many is not 0, the same one each time."""
    chance = Random(seed)
    return tuple(
        tuple(chance.randint(1, most) if chance.randint(1, share) == 1 else 0 for j in range(rows)) for i in range(rows)
    )


def some_tables():
    for seed in range(400):
        yield thin(seed, 1 + seed % 8, 1 + seed % 5)
    for seed in range(60):
        yield thin(seed, 12, 4 + seed % 9)
    for seed in range(20):
        yield square(seed, 3, 9)


class Classes(unittest.TestCase):

    def test_told(self):
        for table, classes, closed, beats in (
            (((0,),), (), (), ()),
            (((1,),), ((0,),), (True,), (1,)),
            (((9,),), ((0,),), (True,), (1,)),
            (ALL_TWO, ((0, 1),), (True,), (1,)),
            (GOLDEN, ((0, 1),), (True,), (1,)),
            (((0, 1), (1, 0)), ((0, 1),), (True,), (2,)),
            (((0, 7), (3, 0)), ((0, 1),), (True,), (2,)),
            (((1, 0), (0, 1)), ((0,), (1,)), (True, True), (1, 1)),
            (((1, 1), (0, 1)), ((0,), (1,)), (False, True), (1, 1)),
            (((1, 0), (1, 1)), ((0,), (1,)), (True, False), (1, 1)),
            (((0, 1), (0, 1)), ((1,),), (True,), (1,)),
            (((0, 1), (0, 0)), (), (), ()),
            (((1, 1), (0, 0)), ((0,),), (False,), (1,)),
            (((1, 0), (1, 0)), ((0,),), (True,), (1,)),
            (((0, 0, 2), (0, 1, 0), (2, 0, 0)), ((0, 2), (1,)), (True, True), (2, 1)),
            (((0, 0, 2), (1, 1, 0), (2, 0, 0)), ((0, 2), (1,)), (True, False), (2, 1)),
            (((0, 1, 0, 0), (1, 0, 1, 0), (0, 0, 0, 1), (0, 0, 1, 0)), ((0, 1), (2, 3)), (False, True), (2, 2)),
            (((0, 1, 0), (0, 0, 1), (0, 1, 0)), ((1, 2),), (True,), (2,)),
            (ring(3), ((0, 1, 2),), (True,), (3,)),
            (ring(12), (tuple(range(12)),), (True,), (12,)),
            (ring(12, [(5, 0)]), (tuple(range(12)),), (True,), (6,)),
            (ring(12, [(8, 0)]), (tuple(range(12)),), (True,), (3,)),
            (ring(12, [(10, 0)]), (tuple(range(12)),), (True,), (1,)),
            (ring(6, [(2, 0), (3, 0)]), (tuple(range(6)),), (True,), (1,)),
            (ring(4, [(1, 0)]), (tuple(range(4)),), (True,), (2,)),
            (((9,) * 12,) * 12, (tuple(range(12)),), (True,), (1,)),
            (((0,) * 12,) * 12, (), (), ()),
        ):
            self.assertEqual(classes_of(table), (classes, closed, beats), table)

    def test_kinds_of_values(self):
        for table in some_tables():
            told = classes_of(table)
            self.assertTrue(type(told) is tuple and len(told) == 3 and all(type(row) is tuple for row in told))
            self.assertTrue(all(type(members) is tuple and all(is_whole(part) for part in members) for members in told[0]))
            self.assertTrue(all(type(held) is bool for held in told[1]) and all(is_whole(beat) for beat in told[2]))

    def test_against_ways_one_by_one(self):
        beats, many, shut = set(), set(), set()
        for table in some_tables():
            told = classes_of(table)
            self.assertEqual(told, classes_seen(table), table)
            beats |= set(told[2])
            many.add(len(told[0]))
            shut.add(told[1])
        self.assertTrue(beats >= {1, 2, 3, 4} and many >= {0, 1, 2, 3, 4})
        self.assertTrue(shut >= {(True,), (False, True), (True, False), (False, False, True), (True, True)})

    def test_all_small_tables(self):
        for size in (1, 2, 3):
            for row in product((0, 1), repeat=size * size):
                table = tuple(row[part * size:(part + 1) * size] for part in range(size))
                self.assertEqual(classes_of(table), classes_seen(table), table)

    def test_only_0_or_not_counts(self):
        for seed in range(30):
            table = thin(seed, 5, 3)
            plain = tuple(tuple(1 if worth else 0 for worth in row) for row in table)
            self.assertEqual(classes_of(table), classes_of(plain))
            self.assertEqual(all_reached(table), all_reached(plain))

    def test_tables_of_maps(self):
        for knots, told in (
            (made("0 0", "1/2 1", "1 0"), (((0, 1),), (True,), (1,))),
            (made("0 1", "1 2", "2 0"), (((0, 1),), (True,), (1,))),
            (made("0 2", "1 4", "2 2", "3 0", "4 2"), (((0, 1, 2, 3),), (True,), (2,))),
            (zigzag(13), ((tuple(range(12)),), (True,), (1,))),
        ):
            self.assertEqual(classes_of(table_of(knots, least_parting(knots, 13))), told)


class AllReached(unittest.TestCase):

    def test_told(self):
        for table, told in (
            (((0,),), None), (((1,),), 1), (((9,),), 1), (ALL_TWO, 1), (GOLDEN, 2), (((0, 1), (1, 1)), 2), (((0, 1), (1, 0)), None),
            (((1, 0), (0, 1)), None), (((1, 1), (0, 1)), None), (((0, 1), (0, 1)), None), (((1, 1), (0, 0)), None),
            (((1, 0), (1, 0)), None), (ring(3), None), (ring(3, [(0, 0)]), 4), (ring(3, [(1, 0)]), 5), (ring(4, [(1, 0)]), None),
            (ring(4, [(2, 0)]), 10), (ring(12, [(10, 0)]), 122), (ring(12, [(0, 0)]), 22), (((1,) * 12,) * 12, 1),
            (((0,) * 12,) * 12, None), (((5, 0, 3), (1, 2, 0), (0, 9, 0)), 3), (ring(12), None), (ring(13, [(11, 0)]), 145),
        ):
            self.assertEqual(all_reached(table), told, table)
            self.assertTrue(told is None or is_whole(all_reached(table)))

    def test_against_words_one_by_one(self):
        seen = {}
        for table in some_tables():
            told = all_reached(table)
            # Behind so many turns no new sets of parts can come for so few parts: 200 is beyond all of them.
            self.assertEqual(told, turns_seen(table, 200), table)
            seen[told] = seen.get(told, 0) + 1
        self.assertTrue(seen.keys() >= {None, 1, 2, 3, 4, 5, 6})

    def test_all_small_tables(self):
        for size in (1, 2, 3):
            for row in product((0, 2), repeat=size * size):
                table = tuple(row[part * size:(part + 1) * size] for part in range(size))
                self.assertEqual(all_reached(table), turns_seen(table, 40), table)

    def test_each_word_written_out(self):
        for seed in range(40):
            table = thin(seed, 3, 2)
            told = all_reached(table)
            for many in range(1, 6):
                ends = {
                    (word[0], word[-1]) for word in product(range(3), repeat=many + 1)
                    if all(table[one][other] for one, other in zip(word, word[1:]))
                }
                self.assertEqual(len(ends) == 9, told is not None and told <= many, (table, many))

    def test_as_classes_tell(self):
        # All is reached where all parts are one class, of beat 1.
        for table in some_tables():
            classes, closed, beats = classes_of(table)
            one = len(classes) == 1 and len(classes[0]) == len(table) and beats == (1,)
            self.assertEqual(all_reached(table) is not None, one)


if __name__ == "__main__":
    unittest.main()
