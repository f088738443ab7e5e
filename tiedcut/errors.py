"""The refusals: each one stands straight under TreeError, none under another."""


class TreeError(ValueError):
    """What all refusals are."""


class NoRow(TreeError):
    """What was handed in is no row by its form."""


class NoPoint(TreeError):
    """A number is no point's."""


class Ring(TreeError):
    """Two points that should be tied are joined already."""


class NoTie(TreeError):
    """Two points are no tied pair."""


class Apart(TreeError):
    """There is no way between points."""


class NoPlace(TreeError):
    """There is nothing at this place."""


class NoDeed(TreeError):
    """There is no deed left that could be undone."""


class NoForest(TreeError):
    """No forest was begun yet."""


class NoLine(TreeError):
    """A line is none that can be said."""


class NoText(TreeError):
    """A text isn't written as it must be; line is the number of its first wrong row, from 0."""

    def __init__(self, line):
        self.line = line
