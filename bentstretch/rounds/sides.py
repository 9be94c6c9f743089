"""What turns do to the points very near to a point that comes round, and the slope of a round."""

from bentstretch.errors import NoPoint
from bentstretch.maps.fractions import less, times
from bentstretch.maps.values import slope_between
from bentstretch.rounds.rounds import has_length, way_round

LOW_SIDE = -1
HIGH_SIDE = 1
SLOPE_ONE = (1, 1)


def lies_beside(start, end, point, side):
    """Whether the piece from start to end lies at a point, on this side of it."""
    if side == LOW_SIDE:
        return less(start[0], point) and not less(end[0], point)
    return not less(point, start[0]) and less(point, end[0])


def slope_beside(knots, point, side):
    """The slope of the map at a point, on a side of it; None where the stretch ends there."""
    for start, end in zip(knots, knots[1:]):
        if lies_beside(start, end, point, side):
            return slope_between(start, end)
    return None


def slope_along(knots, way, side):
    """The slope by which all turns of a way lead a side of its first point on; None where there is no such side."""
    told = SLOPE_ONE
    for point in way:
        slope = slope_beside(knots, point, side)
        # A stretch can end only beside the first point: from there on values are led, and they lie in it.
        if slope is None:
            return None
        told = times(told, slope)
        # Behind a level piece there is no side any more: all its points are led as the way itself.
        if slope[0] == 0:
            return told
        if slope[0] < 0:
            side = -side
    return told


def told_of_side(slope, across):
    """What becomes of a side that is led by a slope, the side across from it by another one."""
    if slope[0] < 0:
        # The points change sides: there they stay, or they come back by both slopes together.
        slope = times(slope, across) if across[0] < 0 else across
    if less(slope, SLOPE_ONE):
        return "in"
    return "out" if less(SLOPE_ONE, slope) else "round"


def sides_at(knots, point, many):
    """For each side of a point of this length, the low one first: "in", "out" or "round"."""
    if not has_length(knots, point, many):
        raise NoPoint("the point's length is another one")
    way = way_round(knots, point, many)
    low, high = slope_along(knots, way, LOW_SIDE), slope_along(knots, way, HIGH_SIDE)
    if low is None:
        return (told_of_side(high, low),)
    if high is None:
        return (told_of_side(low, high),)
    return (told_of_side(low, high), told_of_side(high, low))


def slope_at(knots, point):
    """The one slope that the sides of a point have; None where they are unlike."""
    low, high = slope_beside(knots, point, LOW_SIDE), slope_beside(knots, point, HIGH_SIDE)
    if low is None:
        return high
    return low if high is None or low == high else None


def slope_of_round(knots, points):
    """The product of the slopes at a round's points; None where a point of it has two."""
    told = SLOPE_ONE
    for point in points:
        slope = slope_at(knots, point)
        if slope is None:
            return None
        told = times(told, slope)
    return told
