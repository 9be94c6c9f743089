"""Long shares: how much of its time a map spends on each part, and the shares of stretches."""

from bentstretch.errors import NoParting
from bentstretch.maps.back import comes_into
from bentstretch.maps.fractions import greater, less, lesser, minus, over, plus, summed, times
from bentstretch.mix.classes import classes_of
from bentstretch.parts.partings import table_of

NOUGHT = (0, 1)
ONE = (1, 1)


def steep_table(knots, parting):
    """The table of a fitting parting of which no part is level; NoParting else."""
    table = table_of(knots, parting)
    # Only a level part is laid over no part.
    if not all(any(row) for row in table):
        raise NoParting("a part is level")
    return table


def led_shares(table, parting):
    """For each part a row: which share of the part is led to each part."""
    lengths = [minus(high, low) for low, high in zip(parting, parting[1:])]
    rows = []
    for row in table:
        # A part's length times its slope is all that it is laid over: so these tell what the slope would.
        reached = [times((number, 1), length) for number, length in zip(row, lengths)]
        total = summed(reached)
        rows.append([over(length, total) for length in reached])
    return rows


def led_on_by(rows, shares):
    """What one turn makes of shares."""
    return [summed([times(share, row[part]) for share, row in zip(shares, rows)]) for part in range(len(rows))]


def kept_shares(rows):
    """The one row of shares that a turn keeps, of parts that all lead to one another and nowhere else."""
    rows = [list(row) for row in rows]
    # One part after the other, the last first, is left out: what was led to it is led on as it leads on.
    for last in range(len(rows) - 1, 0, -1):
        leaving = summed(rows[last][:last])
        for part in range(last):
            rows[part][last] = over(rows[part][last], leaving)
            for other in range(last):
                passed = times(rows[part][last], rows[last][other])
                rows[part][other] = plus(rows[part][other], passed)
    shares = [ONE]
    for part in range(1, len(rows)):
        # Of the parts ahead alone, which are those that have shares so far.
        share = summed([times(ahead, row[part]) for ahead, row in zip(shares, rows)])
        shares.append(share)
    total = summed(shares)
    return [over(share, total) for share in shares]


def class_shares(rows, members):
    """The long shares of a closed class: a tuple, 0 for each part outside of it."""
    kept = kept_shares([[rows[part][other] for other in members] for part in members])
    told = [NOUGHT for row in rows]
    for part, share in zip(members, kept):
        told[part] = share
    return tuple(told)


def long_shares(knots, parting):
    """The long shares of a map: a list, one row for each closed class, in the classes' order; or NoParting."""
    table = steep_table(knots, parting)
    rows = led_shares(table, parting)
    classes, closed, beats = classes_of(table)
    return [class_shares(rows, members) for members, held in zip(classes, closed) if held]


def shares_shown(knots, parting, shares):
    """Whether any row of fractions is a row of long shares, a mixture of several too."""
    try:
        table = steep_table(knots, parting)
    except NoParting:
        return False
    if any(less(share, NOUGHT) for share in shares) or summed(shares) != ONE:
        return False
    # What a turn makes of them has one share for each part: so a row of another length is not kept, either.
    return led_on_by(led_shares(table, parting), shares) == list(shares)


def share_of(parting, shares, low, high):
    """The share of a stretch: each part's share by how much of its length lies in it."""
    told = NOUGHT
    for start, end, share in zip(parting, parting[1:], shares):
        first, last = greater(start, low), lesser(end, high)
        if less(first, last):
            told = plus(told, times(share, over(minus(last, first), minus(end, start))))
    return told


def share_twice(knots, parting, shares, low, high):
    """The share of a stretch, and that of what comes into it."""
    into = [share_of(parting, shares, start, end) for start, end in comes_into(knots, low, high)]
    return (share_of(parting, shares, low, high), summed(into))
