"""The polynomial of a table, its mixing, and how many words lead round."""

from bentstretch.maps.fractions import less, minus, plus, times

HALF = (1, 2)


def multiplied(one, other):
    """The product of two tables."""
    size = len(one)
    return [[sum([row[k] * other[k][j] for k in range(size)]) for j in range(size)] for row in one]


def corner_sums(table, many):
    """The sums of the corner numbers of a table multiplied by itself 0, 1, .. so many times."""
    size = len(table)
    power = [[1 if i == j else 0 for j in range(size)] for i in range(size)]
    sums = [size]
    for turn in range(many):
        power = multiplied(power, table)
        sums.append(sum([power[i][i] for i in range(size)]))
    return sums


def round_words(table, many):
    """How many words of so many letters lead from their last letter to their first, by the table."""
    return corner_sums(table, many)[many]


def mix_poly(table):
    """The polynomial of a table: the number of x to the power 0 first, the last one 1."""
    size = len(table)
    sums = corner_sums(table, size)
    # Falling powers of x: the corner sums alone tell each number from those ahead of it (Newton).
    falling = [1]
    for k in range(1, size + 1):
        total = sum([falling[i] * sums[k - i] for i in range(k)])
        falling.append(-total // k)
    return tuple(reversed(falling))


def round_words_by(poly, many):
    """As round_words, by the polynomial of the table alone."""
    size = len(poly) - 1
    falling = list(reversed(poly))
    sums = [size]
    for k in range(1, many + 1):
        total = sum([falling[i] * sums[k - i] for i in range(1, min(k, size + 1))])
        # The number at the power of just so many letters stands there so many times.
        total += k * falling[k] if k <= size else 0
        sums.append(-total)
    return sums[many]


def moved(poly, point):
    """The numbers of a polynomial in the distance from a point, each times some number above 0."""
    above, below = point
    row = []
    scale = 1
    for number in reversed(poly):
        row.append(number * scale)
        scale *= below
    row.reverse()
    for first in range(len(row)):
        for place in range(len(row) - 2, first - 1, -1):
            row[place] += above * row[place + 1]
    return row


def root_against(poly, point):
    """The greatest real root of a table's polynomial, compared with a fraction: -1, 0 or 1."""
    # No root of a table's polynomial is farther from 0 than its greatest real one. So where that one is not
    # beyond the point, none of these numbers is below 0; and where none is, no root can lie beyond the point.
    row = moved(poly, point)
    if any(number < 0 for number in row):
        return 1
    return 0 if row[0] == 0 else -1


def mix_with(table, fraction):
    """The mixing of a table, compared with a fraction: -1 where it is less, 0, or 1."""
    return root_against(mix_poly(table), fraction)


def mix_between(table, width):
    """Two fractions, from 0 on and no farther apart than a width, between which the mixing of a table is."""
    poly = mix_poly(table)
    # The mixing is no greater than the greatest sum of a row.
    low, high = (0, 1), (max([sum(row) for row in table]), 1)
    while less(width, minus(high, low)):
        middle = times(plus(low, high), HALF)
        if root_against(poly, middle) > 0:
            low = middle
        else:
            high = middle
    return (low, high)
