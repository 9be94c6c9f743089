"""The desk: it keeps a map and answers lines about it."""

from bentstretch.errors import NoAsk, NoMap
from bentstretch.kept import with_knot, without_knot
from bentstretch.maps.back import comes_to, stays_of
from bentstretch.maps.fractions import fraction_shown, is_number, number_shown, read_fraction, read_number
from bentstretch.maps.texts import read_lines, row_shown
from bentstretch.maps.turns import pieces_of
from bentstretch.maps.values import value_of
from bentstretch.mix.mixing import mix_with
from bentstretch.parts.partings import least_parting, table_of
from bentstretch.parts.words import how_many_words
from bentstretch.rounds.lengths import lengths_of
from bentstretch.rounds.rounds import rounds_of
from bentstretch.rounds.ways import way_of

FIRST_MAP = (((0, 1), (0, 1)), ((1, 1), (1, 1)))
MAP_AHEAD = "map "
MOST_KNOTS = 8
MOST_NUMBER = 9999
MOST_TURNS = 7
MOST_POWER = 130
MOST_ON_WAY = 40
MOST_LETTERS = 12
MOST_IN_PARTING = 13
NONE_TOLD = "none"
MIX_WORDS = ("less", "same", "greater")

# What the words behind the first one of a line are.
KINDS = {
    "knot": ("fraction", "fraction"),
    "drop": ("fraction",),
    "show": (),
    "value": ("fraction",),
    "pieces": (),
    "stays": (),
    "comes": ("fraction",),
    "rounds": ("number",),
    "lengths": ("number",),
    "way": ("fraction", "number"),
    "parting": (),
    "words": ("number",),
    "mix": ("fraction",),
}


def is_long(one):
    """Whether a fraction has more than four figures above or below."""
    return abs(one[0]) > MOST_NUMBER or one[1] > MOST_NUMBER


def read_text(text):
    """The map that a desk's text is; NoMap where it is none, or one too great for a desk."""
    knots = read_lines(text.split(";"))
    if len(knots) > MOST_KNOTS or any(is_long(at) or is_long(to) for at, to in knots):
        raise NoMap(0)
    return knots


def read_word(kind, word):
    """The fraction or the number that a word of a line is; NoAsk where it is none."""
    if kind == "fraction":
        worth = read_fraction(word)
    else:
        worth = read_number(word) if is_number(word) else None
    if worth is None:
        raise NoAsk("a word of the line is no fraction, or no number")
    return worth


def read_line(words):
    """What the words of a line behind its first one are; NoAsk where it is no line of the desk."""
    if words[0] not in KINDS:
        raise NoAsk("the desk knows no such line")
    kinds = KINDS[words[0]]
    if len(words) != len(kinds) + 1:
        raise NoAsk("the line has too many words, or too few")
    return [read_word(kind, word) for kind, word in zip(kinds, words[1:])]


def need_number(many, least, most):
    """Refuses with NoAsk a number that is not between two others."""
    if many < least or many > most:
        raise NoAsk("the number is too small or too great")


def need_turns(knots, many):
    """Refuses with NoAsk a number of turns that would make too much of a map."""
    need_number(many, 1, MOST_TURNS)
    power = 1
    for turn in range(many):
        power *= len(pieces_of(knots))
    need_number(power, 1, MOST_POWER)


def knot_laid(knots, at, to):
    """The map with a knot put in, or led to another value."""
    if is_long(at) or is_long(to):
        raise NoAsk("a fraction of the knot has too many figures")
    told = with_knot(knots, at, to)
    if len(told) > MOST_KNOTS:
        raise NoAsk("the map would have too many knots")
    return told


def knot_dropped(knots, at):
    """The map without a knot amid."""
    return without_knot(knots, at)


def show_told(knots):
    """The lines of a map."""
    return [row_shown(knot) for knot in knots]


def value_told(knots, point):
    """The value at a point."""
    return [fraction_shown(value_of(knots, point))]


def pieces_told(knots):
    """A line for each piece."""
    return [row_shown(piece) for piece in pieces_of(knots)]


def stays_told(knots):
    """A line for each pair of what stays."""
    return [row_shown(ends) for ends in stays_of(knots)]


def comes_told(knots, point):
    """A line for each pair of what comes to a point."""
    return [row_shown(ends) for ends in comes_to(knots, point)]


def rounds_told(knots, many):
    """A line for each lone round of a length."""
    need_turns(knots, many)
    return [row_shown(points) for points in rounds_of(knots, many)]


def lengths_told(knots, many):
    """The lengths up to a number, in one row."""
    need_turns(knots, many)
    return [" ".join([number_shown(length) for length in lengths_of(knots, many)])]


def way_told(knots, point, many):
    """How the way of a point goes."""
    need_number(many, 0, MOST_ON_WAY)
    way = way_of(knots, point, many)
    if way[0] == "open":
        return ["open"]
    return [f"round {way[1]} {way[2]}"]


def parting_told(knots):
    """The points of the least fitting parting, in one row."""
    parting = least_parting(knots, MOST_IN_PARTING)
    return [NONE_TOLD if parting is None else row_shown(parting)]


def desk_table(knots):
    """The table of the least fitting parting, or None."""
    parting = least_parting(knots, MOST_IN_PARTING)
    return None if parting is None else table_of(knots, parting)


def words_told(knots, many):
    """How many words of so many letters come."""
    need_number(many, 0, MOST_LETTERS)
    table = desk_table(knots)
    return [NONE_TOLD if table is None else number_shown(how_many_words(table, many))]


def mix_told(knots, worth):
    """How the mixing stands to a fraction."""
    table = desk_table(knots)
    return [NONE_TOLD if table is None else MIX_WORDS[mix_with(table, worth) + 1]]


CHANGES = {"knot": knot_laid, "drop": knot_dropped}
TELLERS = {
    "show": show_told,
    "value": value_told,
    "pieces": pieces_told,
    "stays": stays_told,
    "comes": comes_told,
    "rounds": rounds_told,
    "lengths": lengths_told,
    "way": way_told,
    "parting": parting_told,
    "words": words_told,
    "mix": mix_told,
}


class Desk:
    """A desk keeps a map."""

    def __init__(self):
        self.knots = FIRST_MAP

    def ask(self, line):
        """Answers a line with a list of texts; what is refused changes nothing."""
        if line.startswith(MAP_AHEAD):
            self.knots = read_text(line[len(MAP_AHEAD):])
            return []
        words = line.split(" ")
        worths = read_line(words)
        if words[0] in CHANGES:
            change = CHANGES[words[0]]
            self.knots = change(self.knots, *worths)
            return []
        tell = TELLERS[words[0]]
        return tell(self.knots, *worths)
