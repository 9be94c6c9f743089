"""Parts that lead on to one another: the classes of a table, their beats, and when all is reached from all."""

from bentstretch.maps.fractions import common_divisor


def leads_at_once(table):
    """For each part a row of truths: whether a word of two letters leads from it to each part."""
    return [[number != 0 for number in row] for row in table]


def leads_at_all(table):
    """For each part a row of truths: whether a word of two letters or more leads from it to each part."""
    leads = leads_at_once(table)
    for amid in range(len(table)):
        for part in range(len(table)):
            if leads[part][amid]:
                leads[part] = [one or other for one, other in zip(leads[part], leads[amid])]
    return leads


def members_of(leads, part):
    """The parts that a part leads to and that lead back to it, rising; none where it does not lead to itself."""
    return tuple([other for other in range(len(leads)) if leads[part][other] and leads[other][part]])


def is_closed(leads, members):
    """Whether a class leads nowhere else."""
    # All parts of a class lead to the same parts.
    row = leads[members[0]]
    return all(part in members for part in range(len(row)) if row[part])


def beat_of(table, members):
    """The greatest number that divides the lengths of all ways from a part of a class back to it."""
    turns = {members[0]: 0}
    found = [members[0]]
    place = 0
    beat = 0
    while place < len(found):
        part = found[place]
        for other in members:
            if table[part][other] == 0:
                continue
            if other in turns:
                # By two ways to one part: each way on from there leads round by both.
                beat = common_divisor(beat, turns[part] + 1 - turns[other])
            else:
                turns[other] = turns[part] + 1
                found.append(other)
        place += 1
    return beat


def classes_of(table):
    """The classes of a table in the order of their first parts, which of them are closed, and their beats."""
    leads = leads_at_all(table)
    classes = []
    for part in range(len(table)):
        members = members_of(leads, part)
        if members and members[0] == part:
            classes.append(members)
    closed = [is_closed(leads, members) for members in classes]
    beats = [beat_of(table, members) for members in classes]
    return (tuple(classes), tuple(closed), tuple(beats))


def all_reached(table):
    """The least number of turns by which each part is reached from each part; None where there is none."""
    size = len(table)
    once = leads_at_once(table)
    leads = once
    # Where all is reached at all, it is by (size - 1) * (size - 1) + 1 turns at the latest (Wielandt).
    for many in range(1, (size - 1) * (size - 1) + 2):
        if all(all(row) for row in leads):
            return many
        leads = [[any([row[k] and once[k][j] for k in range(size)]) for j in range(size)] for row in leads]
    return None
