"""The way of a point, and by how many turns two points are told apart."""

from bentstretch.maps.fractions import greater, less, lesser, minus
from bentstretch.maps.values import need_point, value_of


def way_of(knots, point, many):
    """("round", ahead, length) where a point comes back within so many turns, else ("open", points)."""
    need_point(knots, point)
    way = [point]
    turns = {point: 0}
    for turn in range(1, many + 1):
        point = value_of(knots, point)
        if point in turns:
            ahead = turns[point]
            return ("round", ahead, turn - ahead)
        turns[point] = turn
        way.append(point)
    return ("open", tuple(way))


def apart(one, other):
    """How far two points are apart."""
    return minus(greater(one, other), lesser(one, other))


def told_apart(knots, one, other, width, many):
    """The first number of turns, to so many, by which two points are farther apart than a width, or None."""
    need_point(knots, one)
    need_point(knots, other)
    for turn in range(many + 1):
        if less(width, apart(one, other)):
            return turn
        one, other = value_of(knots, one), value_of(knots, other)
    return None
