"""Points: exact numbers, each written as a tuple (top, bottom)."""

from crookroad.errors import BadBottom


def check_bottom(bottom):
    """Refuses a bottom below 1."""
    if bottom < 1:
        raise BadBottom("the bottom of a point is at least 1")


def common_divisor(one, other):
    """The greatest number that divides both; neither is below 0."""
    while other > 0:
        one, other = other, one % other
    return one


def lowest(top, bottom):
    """The point top / bottom in lowest terms."""
    check_bottom(bottom)
    divisor = common_divisor(abs(top), bottom)
    return (top // divisor, bottom // divisor)


def less(one, other):
    """Whether the first point is worth less than the other one."""
    check_bottom(one[1])
    check_bottom(other[1])
    return one[0] * other[1] < other[0] * one[1]


def ordered(points):
    """A new list of the same tuples, the least worth first."""
    for point in points:
        check_bottom(point[1])
    greatest = max([point[1] for point in points], default=1)
    # Two points of unlike worth lie at least 1 / (greatest * greatest) apart.
    # Made greater by that much and cut to whole numbers they are still unlike,
    # so whole numbers alone keep the order, and points of one worth stay even.
    scale = greatest * greatest
    return sorted(points, key=lambda point: point[0] * scale // point[1])
