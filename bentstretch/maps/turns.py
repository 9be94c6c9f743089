"""Maps put one behind the other, maps turned, and their pieces and laps."""

from bentstretch.errors import NoMap
from bentstretch.maps.fractions import greater, less, lesser
from bentstretch.maps.values import least_knots, on_line, slope_between, value_of


def bends_within(start, end, knots):
    """The knots that a map brings into the piece from start to end, both left out."""
    low, high = lesser(start[1], end[1]), greater(start[1], end[1])
    met = [knot for knot in knots if less(low, knot[0]) and less(knot[0], high)]
    if less(end[1], start[1]):
        met.reverse()
    # The piece read backwards: from its values to its points. A level one meets no knot.
    first, last = (start[1], start[0]), (end[1], end[0])
    return [(on_line(first, last, at), to) for at, to in met]


def led_on(one, other):
    """The knots of a row of straight pieces, each point led on to the map's value at its value."""
    knots = [(one[0][0], value_of(other, one[0][1]))]
    for start, end in zip(one, one[1:]):
        knots.extend(bends_within(start, end, other))
        knots.append((end[0], value_of(other, end[1])))
    return tuple(knots)


def put_behind(one, other):
    """The map that has at each point the second's value at the first's value."""
    if one[0][0] != other[0][0] or one[-1][0] != other[-1][0]:
        raise NoMap(0)
    return least_knots(led_on(one, other))


def turned(knots, many):
    """The map put behind itself so many times; by 0 turns each point stays."""
    low, high = knots[0][0], knots[-1][0]
    # Knots at which the map goes straight on would be met again by each turn.
    single = least_knots(knots)
    told = ((low, low), (high, high))
    for turn in range(many):
        told = put_behind(told, single)
    return told


def pieces_of(knots):
    """The pieces of a map in its fewest knots, in order: (low, high, slope)."""
    fewest = least_knots(knots)
    return tuple([(one[0], other[0], slope_between(one, other)) for one, other in zip(fewest, fewest[1:])])


def laps_of(knots):
    """The least number of stretches, end to end, on each of which the map never falls or never rises."""
    laps = 1
    way = 0
    for low, high, slope in pieces_of(knots):
        rise = slope[0]
        if way * rise < 0:
            laps += 1
        # A level piece goes with whatever stands ahead of it.
        if rise != 0:
            way = rise
    return laps
