"""Fractions: pairs (above, below) of whole numbers in least numbers, below 1 or more."""

FIGURES = "0123456789"

# Python refuses to read or write a number of some thousand figures at once,
# and what is told may be as great as it needs: so figures go by shares of these.
SHARE = 60
SHARE_POWER = 10 ** 60


def common_divisor(one, other):
    """The greatest whole number that divides both; 0 where both are 0."""
    one, other = abs(one), abs(other)
    while other:
        one, other = other, one % other
    return one


def fraction(above, below):
    """The fraction above over below in least numbers; below is not 0."""
    divisor = common_divisor(above, below)
    if below < 0:
        divisor = -divisor
    return (above // divisor, below // divisor)


def plus(one, other):
    """The sum of two fractions."""
    return fraction(one[0] * other[1] + other[0] * one[1], one[1] * other[1])


def minus(one, other):
    """The first fraction less the second."""
    return fraction(one[0] * other[1] - other[0] * one[1], one[1] * other[1])


def times(one, other):
    """The product of two fractions."""
    return fraction(one[0] * other[0], one[1] * other[1])


def over(one, other):
    """The first fraction over the second, which is not 0."""
    return fraction(one[0] * other[1], one[1] * other[0])


def summed(row):
    """The sum of a row of fractions, 0 of none."""
    total = (0, 1)
    for one in row:
        total = plus(total, one)
    return total


def less(one, other):
    """Whether the first fraction is less than the second."""
    return one[0] * other[1] < other[0] * one[1]


def lesser(one, other):
    """The lesser one of two fractions."""
    return other if less(other, one) else one


def greater(one, other):
    """The greater one of two fractions."""
    return other if less(one, other) else one


def within(point, low, high):
    """Whether a point lies between low and high, both let."""
    return not less(point, low) and not less(high, point)


def rising(row):
    """A list of fractions in rising order."""
    common = 1
    for above, below in row:
        common = common * below // common_divisor(common, below)
    return sorted(row, key=lambda one: one[0] * (common // one[1]))


def is_number(word):
    """Whether a text is a number from 0 on, in figures without a nought ahead."""
    if word == "" or not all(sign in FIGURES for sign in word):
        return False
    return word == "0" or word[0] != "0"


def read_number(figures):
    """The whole number that a text of figures is."""
    first = len(figures) % SHARE
    number = int("0" + figures[:first])
    for start in range(first, len(figures), SHARE):
        number = number * SHARE_POWER + int(figures[start:start + SHARE])
    return number


def number_shown(number):
    """A whole number in figures, with a `-` ahead where it is below 0."""
    shares = []
    left = abs(number)
    while left >= SHARE_POWER:
        left, share = divmod(left, SHARE_POWER)
        shares.append(str(share).zfill(SHARE))
    shares.append(str(left))
    figures = "".join(reversed(shares))
    return "-" + figures if number < 0 else figures


def read_fraction(word):
    """The fraction that a text is, perhaps not in least numbers; None where it is none."""
    above, line, below = word.partition("/")
    signed = above.startswith("-")
    figures = above[1:] if signed else above
    if not is_number(figures) or (signed and figures == "0"):
        return None
    if line == "":
        below = "1"
    if not is_number(below) or below == "0":
        return None
    number = read_number(figures)
    return fraction(-number if signed else number, read_number(below))


def fraction_shown(one):
    """A fraction as a text: `A/B`, or `A` where B is 1."""
    above, below = one
    if below == 1:
        return number_shown(above)
    return number_shown(above) + "/" + number_shown(below)
