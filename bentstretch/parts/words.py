"""Words of parts: which come, the stretches of their points, and the points that they bring round."""

from bentstretch.errors import NoLoop
from bentstretch.maps.back import piece_into, stays_of
from bentstretch.maps.values import value_of
from bentstretch.parts.partings import table_of


def word_comes(table, word):
    """Whether a table has a number that is not 0 for each two neighbours of a word."""
    return all(table[one][other] != 0 for one, other in zip(word, word[1:]))


def how_many_words(table, letters):
    """How many words of so many letters come by a table, each counted once."""
    if letters == 0:
        return 1
    begun = [1 for row in table]
    for letter in range(letters - 1):
        # For each first letter, how many words of one letter more begin with it.
        begun = [sum([many for many, worth in zip(begun, row) if worth != 0]) for row in table]
    return sum(begun)


def word_stretch(knots, parting, word):
    """The stretch of the points whose way goes through the parts of a word that comes, one letter or more."""
    ends = [(point, value_of(knots, point)) for point in parting]
    low, high = parting[word[-1]], parting[word[-1] + 1]
    for letter in reversed(word[:-1]):
        # A part with a letter behind it is laid over that one's part, so it lays something into each stretch there.
        low, high = piece_into(ends[letter], ends[letter + 1], low, high)
    return (low, high)


def stretch_of(knots, parting, word):
    """The stretch of all points whose way goes through a word's parts; None where it does not come; or NoParting."""
    table = table_of(knots, parting)
    if len(word) == 0:
        return (parting[0], parting[-1])
    return word_stretch(knots, parting, word) if word_comes(table, word) else None


def value_behind(knots, point, many):
    """What so many turns make of a point."""
    for turn in range(many):
        point = value_of(knots, point)
    return point


def point_of(knots, parting, word):
    """The least point that comes round through a word's parts; NoParting, or NoLoop where it leads to no round."""
    table = table_of(knots, parting)
    if len(word) == 0 or not word_comes(table, word + word[:1]):
        raise NoLoop("the word does not lead from its last letter to its first")
    # On the stretch of the word all its turns together are straight.
    line = [(end, value_behind(knots, end, len(word))) for end in word_stretch(knots, parting, word)]
    return stays_of(line)[0][0]
