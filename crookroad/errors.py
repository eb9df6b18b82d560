"""The refusals: one class for each reason, all of them under RoadError."""


class RoadError(ValueError):
    """Any refusal."""


class BadLine(RoadError):
    """The heights make no road, or there is no such corner."""


class BadBottom(RoadError):
    """The bottom of a point is out of bounds."""


class OffRoad(RoadError):
    """The point does not lie on the road."""


class BadCount(RoadError):
    """The number is out of bounds."""


class TooLong(RoadError):
    """There is more to go through than is gone through."""


class BadRow(RoadError):
    """The road has no such stretch, or the row of stretches is not closed."""


class BadName(RoadError):
    """The name is not of the form that names have."""


class Taken(RoadError):
    """The name belongs to another one already."""


class NoRoad(RoadError):
    """No road is there by that name."""


class NoWalker(RoadError):
    """No walker is there by that name."""


class Stood(RoadError):
    """A walker stands in the way of the deed."""


class Apart(RoadError):
    """The two walkers are on two roads."""


class NothingDone(RoadError):
    """There is no deed to take back."""


class BadText(RoadError):
    """The text is not one that a house is written as."""
