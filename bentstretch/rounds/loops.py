"""Loops of stretches that cover one another, the points that they bring, and papers of a round."""

from bentstretch.errors import NoLoop
from bentstretch.maps.back import is_stretch, laid_over, piece_into, stays_of
from bentstretch.maps.fractions import greater, less, lesser, rising, within
from bentstretch.maps.turns import led_on
from bentstretch.maps.values import least_knots, on_line


def covers(knots, one, other):
    """Whether the least and greatest value on the first stretch, one within the map's, hold the second."""
    if not is_stretch(knots, one[0], one[1]) or less(other[1], other[0]):
        return False
    least, most = laid_over(knots, one[0], one[1])
    return within(other[0], least, most) and within(other[1], least, most)


def is_loop(knots, loop):
    """Whether each of the stretches covers the one behind it, the last one the first."""
    return len(loop) > 0 and all(covers(knots, one, other) for one, other in zip(loop, loop[1:] + loop[:1]))


def cut_to(line, stretch):
    """A straight line, cut to where its values lie in a stretch; None where none does."""
    start, end = line
    ends = piece_into(start, end, stretch[0], stretch[1])
    if ends is None:
        return None
    # A line of a single point has no slope, so it goes the way of the level ones.
    if start[1] == end[1]:
        return ((ends[0], start[1]), (ends[1], end[1]))
    return tuple([(at, on_line(start, end, at)) for at in ends])


def may_come_round(knots, loop, line):
    """Whether a line's values, led on through all stretches of a loop, come to points of the line at all."""
    start, end = line
    low, high = lesser(start[1], end[1]), greater(start[1], end[1])
    for stretch in loop:
        least, most = laid_over(knots, low, high)
        low, high = greater(least, stretch[0]), lesser(most, stretch[1])
        if less(high, low):
            return False
    least, most = laid_over(knots, low, high)
    return not less(most, start[0]) and not less(end[0], least)


def least_round(knots, loop, line):
    """The least point of a line that its values, led on through a loop's stretches, come back to; or None."""
    if len(loop) == 0:
        stays = stays_of(line)
        return stays[0][0] if stays else None
    held = cut_to(line, loop[0])
    # Without this look all ways through the pieces would be gone, and these are too many.
    if held is None or not may_come_round(knots, loop[1:], held):
        return None
    row = led_on(held, knots)
    for piece in zip(row, row[1:]):
        found = least_round(knots, loop[1:], piece)
        if found is not None:
            return found
    return None


def loop_point(knots, loop):
    """The least point that a loop brings: it comes round through its stretches; NoLoop where it is none."""
    if not is_loop(knots, loop):
        raise NoLoop("the stretches are no loop")
    low, high = loop[0]
    return least_round(least_knots(knots), loop, ((low, low), (high, high)))


def stretches_between(points):
    """The stretches from each point of a round to its next greater one, from the lowest one on."""
    ordered = rising(points)
    return list(zip(ordered, ordered[1:]))


def is_repeated(row):
    """Whether a row is a shorter one so many times."""
    long = len(row)
    return any(long % part == 0 and row[:part] * (long // part) == row for part in range(1, long))


def loop_from(leads, word, many):
    """The first way of so many numbers that begins with word and is a loop, no shorter one repeated; or None."""
    if len(word) == many:
        return word if leads[word[-1]][word[0]] and not is_repeated(word) else None
    # A loop may begin at any of its stretches, so one with a lesser number is found from that one on.
    for ahead in range(word[0], len(leads)):
        if leads[word[-1]][ahead]:
            found = loop_from(leads, word + [ahead], many)
            if found is not None:
                return found
    return None


def loop_for(knots, points, many):
    """The first paper of a round for a number of turns, by its stretches' numbers; None where there is none."""
    if many < 1:
        return None
    stretches = stretches_between(points)
    leads = [[covers(knots, one, other) for other in stretches] for one in stretches]
    for first in range(len(stretches)):
        found = loop_from(leads, [first], many)
        if found is not None:
            return tuple([stretches[place] for place in found])
    return None


def loop_shown(knots, points, many, loop):
    """Whether a loop is a paper of a round for a number of turns, whoever wrote it."""
    stretches = stretches_between(points)
    if len(loop) != many or not all(stretch in stretches for stretch in loop):
        return False
    return is_loop(knots, loop) and not is_repeated(loop)
