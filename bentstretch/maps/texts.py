"""Maps as texts: a knot a line, its at and its to parted by a single blank."""

from bentstretch.errors import NoMap
from bentstretch.maps.fractions import fraction_shown, less, read_fraction, within


def read_knot(line):
    """The knot that a line is, or None where it is none."""
    words = line.split(" ")
    if len(words) != 2:
        return None
    at, to = read_fraction(words[0]), read_fraction(words[1])
    if at is None or to is None:
        return None
    return (at, to)


def read_knots(lines):
    """The knots of all lines; NoMap at the first that is none, or does not rise."""
    knots = []
    for row, line in enumerate(lines):
        knot = read_knot(line)
        if knot is None:
            raise NoMap(row)
        if knots and not less(knots[-1][0], knot[0]):
            raise NoMap(row)
        knots.append(knot)
    return tuple(knots)


def read_lines(lines):
    """The map that lines are, with all its knots as they are; NoMap where they are none."""
    knots = read_knots(lines)
    # A single knot lacks its second line, wherever its own to may lie.
    if len(knots) == 1:
        raise NoMap(1)
    low, high = knots[0][0], knots[-1][0]
    for row, (at, to) in enumerate(knots):
        if not within(to, low, high):
            raise NoMap(row)
    return knots


def read_map(text):
    """The map that a text is, with all its knots as they are; NoMap where it is none."""
    return read_lines(text.split("\n"))


def row_shown(row):
    """Fractions in one row, parted by single blanks."""
    return " ".join([fraction_shown(one) for one in row])


def map_shown(knots):
    """The text of a map, with all its knots as they are."""
    return "\n".join([row_shown(knot) for knot in knots])
