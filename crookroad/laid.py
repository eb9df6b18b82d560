"""Laid out: the bent line of a road that is taken several times."""

from crookroad.counts import check_count
from crookroad.errors import TooLong
from crookroad.parts import lowest

MOST_TAKEN = 12
MOST_CORNERS = 1000


def between(left, right, part, many):
    """The point after so many of the many equal parts of the way from the left point to the right one."""
    top = left[0] * right[1] * (many - part) + right[0] * left[1] * part
    return lowest(top, left[1] * right[1] * many)


def parted(left, right):
    """The left corner, and those with whole heights between it and the right one."""
    start, low = left
    end, high = right
    many = abs(high - low)
    step = 1 if high > low else -1
    put = [(between(start, end, part, many), low + step * part) for part in range(1, many)]
    return [left] + put


def with_whole_heights(line):
    """The line with a corner wherever it has a whole height on its way up or down."""
    put = []
    for left, right in zip(line, line[1:]):
        put.extend(parted(left, right))
    return put + [line[-1]]


def laid(road, many):
    """The corners of the road taken so many times, from left to right."""
    check_count(many, 1, MOST_TAKEN)
    heights = road.corners()
    line = [((corner, 1), height) for corner, height in enumerate(heights)]
    for taken in range(1, many):
        line = [(point, heights[height]) for point, height in with_whole_heights(line)]
        # Corners never become fewer: too many now are too many in the end.
        if len(line) > MOST_CORNERS:
            raise TooLong("the line has too many corners")
    return line


def way(left, right):
    """1 where the line rises from the left corner to the right one, -1 where it falls, else 0."""
    if right[1] > left[1]:
        return 1
    return -1 if right[1] < left[1] else 0


def laps(road, many):
    """How many laps the road taken so many times has."""
    line = laid(road, many)
    turns = [way(left, right) for left, right in zip(line, line[1:])]
    return 1 + sum([1 for one, other in zip(turns, turns[1:]) if one != other])
