"""The refusals of the program: each is a StretchError, none is under another one."""


class StretchError(ValueError):
    """Any refusal."""


class NoPoint(StretchError):
    """A point, or a stretch, that is not one of the map's."""


class NoLoop(StretchError):
    """Stretches, or a word, that are no loop."""


class NoParting(StretchError):
    """A parting that does not fit its map, or a map that has no such parts."""


class NoAsk(StretchError):
    """A line that the desk does not answer."""


class NoMap(StretchError):
    """What is no map: row is the line, or the knot, by which it is none."""

    def __init__(self, row):
        StretchError.__init__(self, f"no map: row {row}")
        self.row = row
