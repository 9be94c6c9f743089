"""What comes to a point or into a stretch, what stays, and what a stretch is laid over."""

from bentstretch.errors import NoPoint
from bentstretch.maps.fractions import greater, less, lesser, minus, within
from bentstretch.maps.values import in_stretch, on_line, value_of


def is_stretch(knots, low, high):
    """Whether low and high are the ends of a stretch within the map's."""
    return not less(high, low) and in_stretch(knots, low) and in_stretch(knots, high)


def need_stretch(knots, low, high):
    """Refuses with NoPoint what is no stretch within the map's."""
    if not is_stretch(knots, low, high):
        raise NoPoint("this is no stretch within the map's")


def piece_into(start, end, low, high):
    """The pair of ends of what a piece lays into a stretch, or None."""
    if start[1] == end[1]:
        return (start[0], end[0]) if within(start[1], low, high) else None
    least = greater(low, lesser(start[1], end[1]))
    most = lesser(high, greater(start[1], end[1]))
    if less(most, least):
        return None
    # The piece read backwards: from its values to its points.
    first, last = (start[1], start[0]), (end[1], end[0])
    one, other = on_line(first, last, least), on_line(first, last, most)
    return (lesser(one, other), greater(one, other))


def all_into(knots, low, high):
    """All that straight pieces between knots lay into a stretch: pairs, rising, not hanging together."""
    told = []
    for start, end in zip(knots, knots[1:]):
        found = piece_into(start, end, low, high)
        if found is None:
            continue
        # What two neighbouring pieces bring hangs together where both bring their common knot.
        if told and told[-1][1] == found[0]:
            told[-1] = (told[-1][0], found[1])
        else:
            told.append(found)
    return tuple(told)


def comes_to(knots, point):
    """The points at which the map has this value: pairs (low, high), rising; NoPoint outside."""
    need_stretch(knots, point, point)
    return all_into(knots, point, point)


def stays_of(knots):
    """The points whose value is the point itself: pairs (low, high), rising."""
    nought = (0, 1)
    return all_into([(at, minus(to, at)) for at, to in knots], nought, nought)


def laid_over(knots, low, high):
    """The least and the greatest value on a stretch within the map's; NoPoint where it is none."""
    need_stretch(knots, low, high)
    least = most = value_of(knots, low)
    amid = [to for at, to in knots if within(at, low, high)]
    for to in amid + [value_of(knots, high)]:
        least, most = lesser(least, to), greater(most, to)
    return (least, most)


def comes_into(knots, low, high):
    """The points whose value lies in a stretch: pairs, rising, not hanging together; NoPoint as above."""
    need_stretch(knots, low, high)
    return all_into(knots, low, high)
