"""Maps that are kept while their knots are put in, taken out and led to other values."""

from bentstretch.errors import NoPoint
from bentstretch.maps.back import stays_of
from bentstretch.maps.fractions import less
from bentstretch.maps.values import need_point, value_of


def is_knot(knots, point):
    """Whether a map has a knot at a point."""
    return any(at == point for at, to in knots)


def with_knot(knots, point, to):
    """The map with a knot at a point, put in or led to another value; NoPoint outside of the stretch."""
    need_point(knots, point)
    need_point(knots, to)
    below = [knot for knot in knots if less(knot[0], point)]
    above = [knot for knot in knots if less(point, knot[0])]
    return (*below, (point, to), *above)


def without_knot(knots, point):
    """The map without a knot amid; NoPoint where there is none, or it is the first or the last."""
    if not is_knot(knots[1:-1], point):
        raise NoPoint("there is no knot amid")
    return tuple([knot for knot in knots if knot[0] != point])


class KeptMap:
    """A map as it stands behind all changes so far."""

    def __init__(self, knots):
        self.knots = tuple(knots)

    def put_knot(self, point, to):
        """Puts in a knot at a point at which none is; NoPoint."""
        if is_knot(self.knots, point):
            raise NoPoint("there is a knot already")
        self.knots = with_knot(self.knots, point, to)

    def take_knot(self, point):
        """Takes out a knot, not the first, not the last; NoPoint."""
        self.knots = without_knot(self.knots, point)

    def lead_knot(self, point, to):
        """Leads a knot, the first and the last too, to another value; NoPoint."""
        if not is_knot(self.knots, point):
            raise NoPoint("there is no knot")
        self.knots = with_knot(self.knots, point, to)

    def knots_now(self):
        """The map with all its knots."""
        return self.knots

    def value_now(self, point):
        """The value at a point; NoPoint outside of the stretch."""
        return value_of(self.knots, point)

    def stays_now(self):
        """The points whose value is the point itself: pairs (low, high), rising."""
        return stays_of(self.knots)
