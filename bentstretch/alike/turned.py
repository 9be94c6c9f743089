"""Turns of a stretch, and maps that are alike by one."""

from bentstretch.errors import NoMap
from bentstretch.maps.fractions import less
from bentstretch.maps.turns import put_behind
from bentstretch.maps.values import least_knots


def all_rising(row):
    """Whether each fraction of a row is less than the one behind it."""
    return all(less(one, other) for one, other in zip(row, row[1:]))


def is_turn(knots):
    """Whether a map rises all along or falls all along and leads the ends of its stretch to its ends."""
    if len(knots) < 2:
        return False
    ats = [at for at, to in knots]
    tos = [to for at, to in knots]
    if tos[0] == ats[-1]:
        tos.reverse()
    return all_rising(ats) and all_rising(tos) and tos[0] == ats[0] and tos[-1] == ats[-1]


def turn_back(turn):
    """The turn that leads back, with as few knots as it needs; NoMap where it is no turn."""
    if not is_turn(turn):
        raise NoMap(0)
    back = [(to, at) for at, to in turn]
    if less(back[-1][0], back[0][0]):
        back.reverse()
    return least_knots(back)


def turned_about(knots, turn):
    """The map that leads each turned point to the point's value turned; NoMap where it is no turn of its stretch."""
    return put_behind(put_behind(turn_back(turn), knots), turn)


def alike_shown(one, other, turn):
    """Whether the first map is turned about to the second by a third one, which is a turn of its stretch."""
    try:
        return turned_about(one, turn) == least_knots(other)
    except NoMap:
        return False


def straight_turns(one, other):
    """The turns of two knots by which the first map is turned about to the second, the rising one first."""
    low, high = one[0][0], one[-1][0]
    turns = (((low, low), (high, high)), ((low, high), (high, low)))
    return tuple([turn for turn in turns if alike_shown(one, other, turn)])
