"""Partings of a stretch that fit a map, and their tables."""

from bentstretch.errors import NoParting
from bentstretch.maps.fractions import greater, less, lesser, rising, within
from bentstretch.maps.values import least_knots, value_of


def is_parting(knots, parting):
    """Whether points rise from the first point of the map's stretch to its last one."""
    if len(parting) < 2 or parting[0] != knots[0][0] or parting[-1] != knots[-1][0]:
        return False
    return all(less(one, other) for one, other in zip(parting, parting[1:]))


def fits(knots, parting):
    """Whether a row of points is a parting, the map straight on each part, each point's value a point of it."""
    if not is_parting(knots, parting) or not all(at in parting for at, to in least_knots(knots)):
        return False
    return all(value_of(knots, point) in parting for point in parting)


def least_parting(knots, most):
    """The least fitting parting that has the map's knots in it, by at most so many points, or None."""
    found = [at for at, to in least_knots(knots)]
    place = 0
    while place < len(found) and len(found) <= most:
        worth = value_of(knots, found[place])
        if worth not in found:
            found.append(worth)
        place += 1
    return tuple(rising(found)) if len(found) <= most else None


def row_of(one, other, parting):
    """The row of a part from its values at both ends: 1 for each part that it is laid over."""
    # A level part is laid over no part: parts have more than a point.
    least, most = lesser(one, other), greater(one, other)
    row = []
    for low, high in zip(parting, parting[1:]):
        row.append(1 if within(low, least, most) and within(high, least, most) else 0)
    return tuple(row)


def table_of(knots, parting):
    """The table of a fitting parting: row i, place j is 1 where part i is laid over part j; NoParting else."""
    if not fits(knots, parting):
        raise NoParting("the parting does not fit the map")
    worths = [value_of(knots, point) for point in parting]
    return tuple([row_of(one, other, parting) for one, other in zip(worths, worths[1:])])
