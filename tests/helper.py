"""What several tests need: maps made without the program, and a plain look at what it told."""

from fractions import Fraction
from math import gcd
from random import Random


def pair(worth):
    """A fraction as the program has it, of a text, a whole number or a Fraction."""
    number = Fraction(worth)
    return (number.numerator, number.denominator)


def number(one):
    """The Fraction that a fraction of the program is."""
    return Fraction(one[0], one[1])


def made(*lines):
    """A map of lines `AT TO`, read without the program."""
    return tuple(tuple(pair(word) for word in line.split()) for line in lines)


def spans(*lines):
    """A tuple of pairs of lines `LOW HIGH`; a single word is a single point."""
    rows = [line.split() for line in lines]
    return tuple((pair(row[0]), pair(row[-1])) for row in rows)


def points(*words):
    """A tuple of fractions of texts."""
    return tuple(pair(word) for word in words)


def is_whole(thing):
    """Whether it is an int that is no truth."""
    return type(thing) is int


def is_fraction(thing):
    """Whether it is a fraction as the document has it, in least numbers."""
    if type(thing) is not tuple or len(thing) != 2:
        return False
    if not is_whole(thing[0]) or not is_whole(thing[1]):
        return False
    return thing[1] >= 1 and gcd(thing[0], thing[1]) == 1


def is_row(thing, long=None):
    """Whether it is a tuple of fractions, of so many where long is told."""
    if type(thing) is not tuple or (long is not None and len(thing) != long):
        return False
    return all(is_fraction(one) for one in thing)


def are_rows(thing, long=None):
    """Whether it is a tuple of tuples of fractions."""
    return type(thing) is tuple and all(is_row(row, long) for row in thing)


def height(knots, at):
    """The value of a map at a Fraction, taken without the program."""
    for one, other in zip(knots, knots[1:]):
        low, high = number(one[0]), number(other[0])
        if low <= at <= high:
            share = (at - low) / (high - low)
            return number(one[1]) * (1 - share) + number(other[1]) * share
    raise AssertionError("the point is not of the stretch")


def lines_of(knots):
    """For each two neighbouring knots (low, high, slope, value at 0), as Fractions."""
    told = []
    for one, other in zip(knots, knots[1:]):
        low, high = number(one[0]), number(other[0])
        slope = (number(other[1]) - number(one[1])) / (high - low)
        told.append((low, high, slope, number(one[1]) - slope * low))
    return told


def fewest_lines(knots):
    """The lines of a map, those that go straight on put together."""
    told = []
    for low, high, slope, nought in lines_of(knots):
        if told and told[-1][2:] == (slope, nought):
            low = told.pop()[0]
        told.append((low, high, slope, nought))
    return told


def hung_together(rows):
    """Pairs of Fractions, put together where they meet, as the program tells them."""
    told = []
    for low, high in sorted(rows):
        if told and low <= told[-1][1]:
            told[-1][1] = max(high, told[-1][1])
        else:
            told.append([low, high])
    return tuple((pair(low), pair(high)) for low, high in told)


def spans_where(knots, candidates, holds):
    """The points at which something holds that changes at candidates and knots alone."""
    ends = number(knots[0][0]), number(knots[-1][0])
    turns = {number(knot[0]) for knot in knots} | {at for at in candidates if ends[0] <= at <= ends[1]}
    ordered = sorted(turns)
    rows = [(at, at) for at in ordered if holds(at)]
    rows += [(one, other) for one, other in zip(ordered, ordered[1:]) if holds((one + other) / 2)]
    return hung_together(rows)


def grid(knots, parts):
    """Fractions all along the stretch of a map, both ends and all knots among them."""
    low, high = number(knots[0][0]), number(knots[-1][0])
    even = {low + (high - low) * step / parts for step in range(parts + 1)}
    return sorted(even | {number(knot[0]) for knot in knots})


def some_maps(seed, many, knots, coarse=6):
    """Maps of few knots on unlike stretches, the same ones each time."""
    chance = Random(seed)
    told = []
    while len(told) < many:
        low = Fraction(chance.randint(-9, 9), chance.randint(1, 4))
        high = low + Fraction(chance.randint(1, 12), chance.randint(1, 4))
        amid = {chance.randint(1, coarse * 2 - 1) for step in range(chance.randint(0, knots - 2))}
        shares = [0] + sorted(amid) + [coarse * 2]
        ats = [low + (high - low) * share / (coarse * 2) for share in shares]
        tos = [low + (high - low) * chance.randint(0, coarse) / coarse for at in ats]
        told.append(tuple((pair(at), pair(to)) for at, to in zip(ats, tos)))
    return told


def led(knots, at, many):
    """What so many turns make of a Fraction, taken without the program."""
    for turn in range(many):
        at = height(knots, at)
    return at


def on_through(way, line):
    """A way (low, high, slope, value at 0) that goes on through one more piece, as far as it comes into it."""
    low, high, slope, nought = way
    start, end, steep, base = line
    if slope == 0:
        ends = (low, high) if start <= nought <= end else None
    else:
        met = sorted(((start - nought) / slope, (end - nought) / slope))
        ends = max(low, met[0]), min(high, met[1])
        ends = ends if ends[0] <= ends[1] else None
    return [(ends[0], ends[1], steep * slope, steep * nought + base)] if ends else []


def stays_on(way):
    """The pairs of Fractions of a way's points that are their own values: none or one."""
    low, high, slope, nought = way
    if slope == 1:
        return [(low, high)] if nought == 0 else []
    at = nought / (1 - slope)
    return [(at, at)] if low <= at <= high else []


def zigzag(knots, low=0, high=1):
    """A map of so many knots, evenly apart, that goes from low to high and back on each piece."""
    ats = [Fraction(low) + Fraction(high - low) * step / (knots - 1) for step in range(knots)]
    return tuple((pair(at), pair(high if step % 2 else low)) for step, at in enumerate(ats))


def square(seed, rows, most):
    """A table of so many rows, its numbers from 0 to most, the same one each time."""
    chance = Random(seed)
    return tuple(tuple(chance.randint(0, most) for place in range(rows)) for row in range(rows))


def some_humps(seed, many, coarse=6):
    """Maps with one hump, of 3 to 6 knots on unlike stretches, and their turns, the same ones each time."""
    chance = Random(seed)
    told = []
    while len(told) < many:
        low = Fraction(chance.randint(-9, 9), chance.randint(1, 4))
        wide = Fraction(chance.randint(1, 12), chance.randint(1, 4))
        shares = [0] + sorted(chance.sample(range(1, 2 * coarse), chance.randint(1, 4))) + [2 * coarse]
        top = chance.randint(1, len(shares) - 2)
        peak = chance.randint(top, 2 * coarse) if chance.randint(0, 2) else 2 * coarse
        if peak < max(top, len(shares) - 1 - top):
            continue
        rises = sorted(chance.sample(range(peak), top))
        falls = sorted(chance.sample(range(peak), len(shares) - 1 - top), reverse=True)
        tos = rises + [peak] + falls
        knots = tuple(
            (pair(low + wide * share / (2 * coarse)), pair(low + wide * to / (2 * coarse))) for share, to in zip(shares, tos)
        )
        told.append((knots, knots[top][0]))
    return told


def with_more(knots):
    """The same map with a knot more, at which it goes straight on, of many figures, amid each piece."""
    told = [knots[0]]
    for one, other in zip(knots, knots[1:]):
        share = Fraction(123456789, 987654321987)
        at = number(one[0]) + (number(other[0]) - number(one[0])) * share
        told += [(pair(at), pair(height((one, other), at))), other]
    return tuple(told)
