"""The values of a map, and the map with as few knots as it needs."""

from bentstretch.errors import NoPoint
from bentstretch.maps.fractions import less, minus, over, plus, times, within


def in_stretch(knots, point):
    """Whether a point lies in the stretch of a map."""
    return within(point, knots[0][0], knots[-1][0])


def need_point(knots, point):
    """Refuses with NoPoint what is no point of the stretch."""
    if not in_stretch(knots, point):
        raise NoPoint("the point is not of the stretch")


def slope_between(one, other):
    """By how much the line through two knots rises."""
    return over(minus(other[1], one[1]), minus(other[0], one[0]))


def on_line(one, other, point):
    """The value at a point of the line through two knots."""
    return plus(one[1], times(slope_between(one, other), minus(point, one[0])))


def value_of(knots, point):
    """The value of a map at a point of its stretch; NoPoint elsewhere."""
    need_point(knots, point)
    place = 1
    while less(knots[place][0], point):
        place += 1
    return on_line(knots[place - 1], knots[place], point)


def least_knots(knots):
    """The map without the knots amid at which it goes straight on."""
    kept = [knots[0]]
    for back, knot, ahead in zip(knots, knots[1:], knots[2:]):
        if slope_between(back, knot) != slope_between(knot, ahead):
            kept.append(knot)
    kept.append(knots[-1])
    return tuple(kept)
