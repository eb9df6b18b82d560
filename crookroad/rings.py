"""Coming back: the points of closed rows, lengths and rings."""

from crookroad.counts import check_count
from crookroad.cover import LONGEST_ROW, covered, rows
from crookroad.errors import BadRow
from crookroad.parts import lowest, ordered
from crookroad.walk import least, walked


def check_row(road, row):
    """Refuses a row of stretches that is not closed, or too short or too long."""
    if len(row) < 1 or len(row) > LONGEST_ROW:
        raise BadRow("a closed row has 1 to 12 stretches")
    for stretch, onward in zip(row, row[1:] + row[:1]):
        if onward not in covered(road, stretch):
            raise BadRow("each stretch of a closed row covers the following one")


def line_along(road, row):
    """The straight line that the steps along the row make: its slope, and its height over 0."""
    steep = 1
    height = 0
    for stretch in row:
        slope = road.slope(stretch)
        left = road.ends(stretch)[0]
        steep = steep * slope
        height = left + slope * (height - stretch)
    return (steep, height)


def fixed_point(road, row):
    """The point of a row that is known to be closed, or None."""
    steep, height = line_along(road, row)
    if steep == 1:
        return None
    # The point x with steep * x + height == x; a bottom is never below 1.
    if steep > 1:
        return lowest(-height, steep - 1)
    return lowest(height, 1 - steep)


def point_of(road, row):
    """The point of a closed row, or None where each point of its first stretch is one."""
    check_row(road, row)
    return fixed_point(road, row)


def corners_back(road, many):
    """The corners, as points, that are back after so many steps."""
    corners = [(corner, 1) for corner in range(road.width() + 1)]
    return [corner for corner in corners if walked(road, corner, many)[many] == corner]


def lies_in(point, stretches):
    """Whether the point lies in one of the stretches, their ends with them."""
    top, bottom = point
    return any([top >= stretch * bottom and top <= (stretch + 1) * bottom for stretch in stretches])


def back(road, many):
    """All that is back after so many steps: single points, and whole stretches."""
    closed = rows(road, many)
    fixed = [fixed_point(road, row) for row in closed]
    wholes = sorted({row[0] for row, point in zip(closed, fixed) if point is None})
    # A ring that holds a corner holds corners alone, and may lie at the ends of
    # stretches that cover nothing; any other point runs along a closed row.
    single = [point for point in fixed if point is not None] + corners_back(road, many)
    points = ordered(sorted({point for point in single if not lies_in(point, wholes)}))
    return (points, wholes)


def candidates(road, length):
    """The candidates of a length, the least worth first."""
    points, wholes = back(road, length)
    thirds = [(3 * stretch + 1, 3) for stretch in wholes]
    return [point for point in ordered(points + thirds) if least(road, point) == length]


def lengths(road, most):
    """All numbers from 1 to the most that are the least number of some point."""
    check_count(most, 1, LONGEST_ROW)
    # Candidates are enough: no point of a whole stretch has a greater least
    # number than its third, as only the midpoint and the ends can be back earlier.
    return [length for length in range(1, most + 1) if len(candidates(road, length)) > 0]


def ring(road, length):
    """The ring of that length that begins with the least candidate, or None."""
    found = candidates(road, length)
    if len(found) == 0:
        return None
    return walked(road, found[0], length - 1)
