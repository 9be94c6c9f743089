"""Where a stretch goes, and what a map is laid over by many turns."""

from bentstretch.maps.back import laid_over, need_stretch


def way_forward(knots, low, high, many):
    """("round", stretches, ahead) where a stretch comes back within so many turns, else ("open", stretches)."""
    need_stretch(knots, low, high)
    way = [(low, high)]
    for turn in range(many):
        low, high = laid_over(knots, low, high)
        if (low, high) in way:
            return ("round", tuple(way), way.index((low, high)))
        way.append((low, high))
    return ("open", tuple(way))


def all_after(knots, low, high, many):
    """After how many turns a stretch is all of the map's, or None where its way goes on without; or NoPoint."""
    stretches = way_forward(knots, low, high, many)[1]
    whole = (knots[0][0], knots[-1][0])
    return stretches.index(whole) if whole in stretches else None


def laid_by(knots, many):
    """What a map is laid over by 0, 1, .. so many turns, each stretch once: a falling row, till it stays the same."""
    # Each stretch lies in the one ahead: so the first that was there before is the one just ahead.
    return way_forward(knots, knots[0][0], knots[-1][0], many)[1]
