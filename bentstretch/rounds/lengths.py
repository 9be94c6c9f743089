"""The order of lengths, and the lengths that points of a map have."""

from bentstretch.rounds.rounds import come_round, has_length


def place_of(length):
    """The place of a length in the order: a tuple that is less the farther ahead it stands."""
    odd, twos = length, 0
    while odd % 2 == 0:
        odd, twos = odd // 2, twos + 1
    # The powers of two stand behind all others, the greatest ones first.
    if odd == 1:
        return (1, -twos, 0)
    return (0, twos, odd)


def brings(one, other):
    """Whether a length brings another one, or itself."""
    return place_of(one) <= place_of(other)


def is_length(knots, many):
    """Whether a point of the map has this length."""
    # The low end of a stretch that comes round stands for all its points: where some turns keep this end,
    # they keep the whole stretch as it is, so no other point of it has a greater length.
    return any(has_length(knots, low, many) for low, high in come_round(knots, many))


def lengths_of(knots, most):
    """The lengths, up to most, that points of a map have, rising."""
    return tuple([many for many in range(1, most + 1) if is_length(knots, many)])
