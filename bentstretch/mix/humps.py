"""Maps with one hump: their turn, and the words of their points."""

from bentstretch.errors import NoParting
from bentstretch.maps.back import all_into
from bentstretch.maps.fractions import less, plus, times
from bentstretch.maps.turns import pieces_of
from bentstretch.maps.values import need_point, value_of

HALF = (1, 2)
LETTERS = "lcr"


def turn_of(knots):
    """The point at which a map turns from rising to falling; NoParting where it has not just one hump."""
    pieces = pieces_of(knots)
    slopes = [slope[0] for low, high, slope in pieces]
    top = 0
    while top < len(slopes) and slopes[top] > 0:
        top += 1
    falls = slopes[top:]
    if top == 0 or len(falls) == 0 or max(falls) >= 0:
        raise NoParting("the map has not just one hump")
    return pieces[top][0]


def letter_of(point, turn):
    """The letter of a point: on which side of the turn it lies."""
    if point == turn:
        return "c"
    return "l" if less(point, turn) else "r"


def hump_word(knots, point, many):
    """The word of so many letters of a point and its way; NoParting, or NoPoint."""
    turn = turn_of(knots)
    need_point(knots, point)
    letters = []
    for place in range(many):
        letters.append(letter_of(point, turn))
        point = value_of(knots, point)
    return "".join(letters)


def words_compared(one, other):
    """Two words compared as points are: -1, 0 where the one begins the other, or 1."""
    sign = 1
    for first, second in zip(one, other):
        if first != second:
            return -sign if LETTERS.index(first) < LETTERS.index(second) else sign
        # Beyond the turn the map falls: what lies lower there is led higher.
        if first == "r":
            sign = -sign
    return 0


def side_into(knots, turn, letter, low, high):
    """What a side of the turn, the turn with it, lays into a stretch: a pair, or None; of `c` just the turn."""
    if letter == "c":
        return (turn, turn)
    side = [knot for knot in knots if letter_of(knot[0], turn) in ("c", letter)]
    found = all_into(side, low, high)
    # A side goes one way all along, so what it lays into a stretch hangs together.
    return found[0] if found else None


def points_with(knots, word):
    """(low, high, one of them) of the points whose word is a told one; None where there is none; or NoParting."""
    turn = turn_of(knots)
    low, high = knots[0][0], knots[-1][0]
    if word == "":
        return (low, high, low)
    for letter in reversed(word):
        found = side_into(knots, turn, letter, low, high)
        if found is None:
            return None
        low, high = found
    # The sides were taken with the turn. A point that comes to it where the word has `l` or `r` is an end of
    # what was found: no two points there are led together, and none comes to the other side. A word with `c`
    # leaves a single point at most.
    if low == high:
        return (low, high, low) if hump_word(knots, low, len(word)) == word else None
    return (low, high, times(plus(low, high), HALF))
