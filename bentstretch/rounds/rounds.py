"""What comes round, and the lone rounds of a length."""

from bentstretch.maps.back import stays_of
from bentstretch.maps.fractions import less
from bentstretch.maps.turns import turned
from bentstretch.maps.values import value_of


def come_round(knots, many):
    """All points that come round by so many turns: pairs (low, high), rising."""
    return stays_of(turned(knots, many))


def way_round(knots, point, many):
    """So many points from a point on, each the value of the one ahead."""
    way = [point]
    while len(way) < many:
        way.append(value_of(knots, way[-1]))
    return tuple(way)


def has_length(knots, point, many):
    """Whether just so many turns, and no fewer, bring a point round; NoPoint outside of the stretch."""
    way = way_round(knots, point, many)
    # Of less than one turn the way is too long: no point has such a length.
    return len(way) == many and point not in way[1:] and value_of(knots, way[-1]) == point


def rounds_of(knots, many):
    """The lone rounds of a length, the least point first, in the order of their least points."""
    told = []
    for low, high in come_round(knots, many):
        # Where one point of a round lies in a stretch that comes round, all its points do:
        # the turns lay that stretch one to one around each of them. So the first is enough.
        if low != high:
            continue
        way = way_round(knots, low, many)
        # A shorter round comes to its first point again, so less than all others is unlike, too.
        if all(less(low, point) for point in way[1:]):
            told.append(way)
    return tuple(told)
