"""Walking: single steps, traces, far steps, and who meets whom."""

from crookroad.counts import check_count
from crookroad.errors import TooLong

MOST_WALKED = 1000
LONGEST_TRACE = 1000
FARTHEST = 10 ** 60


def walked(road, point, many):
    """The points after 0, 1, .. many steps."""
    here = road.on_road(point)
    check_count(many, 0, MOST_WALKED)
    points = [here]
    while len(points) <= many:
        points.append(road.at(points[-1]))
    return points


def trace(road, start):
    """The points of the trace, and the place in it where the ring begins.

    The start is a point of the road in lowest terms.
    """
    places = {}
    here = start
    while here not in places:
        if len(places) == LONGEST_TRACE:
            raise TooLong("the trace has too many points")
        places[here] = len(places)
        here = road.at(here)
    return (list(places), places[here])


def spot(points, turn, many):
    """The point of a trace, its ring beginning at the turn, after so many steps."""
    if many < turn:
        return points[many]
    return points[turn + (many - turn) % (len(points) - turn)]


def tail_ring(road, point):
    """The tail and the ring of the point's trace."""
    points, turn = trace(road, road.on_road(point))
    return (points[:turn], points[turn:])


def far(road, point, many):
    """The point after so many steps."""
    here = road.on_road(point)
    check_count(many, 0, FARTHEST)
    points, turn = trace(road, here)
    return spot(points, turn, many)


def led_to(place, turn, size, many):
    """How many of the first so many steps lead to a place of a trace of that size."""
    if place > many:
        return 0
    times = 1 if place < turn else (many - place) // (size - turn) + 1
    # To stand there at the beginning is no step.
    return times - 1 if place == 0 else times


def stands(road, point, many, other):
    """How many of the first so many steps from the point lead to the other one."""
    here = road.on_road(point)
    check_count(many, 0, FARTHEST)
    sought = road.on_road(other)
    points, turn = trace(road, here)
    if sought not in points:
        return 0
    return led_to(points.index(sought), turn, len(points), many)


def meeting(road, one, other):
    """The least number of steps after which both are at one point, or None."""
    here = road.on_road(one)
    there = road.on_road(other)
    points, turn = trace(road, here)
    others, other_turn = trace(road, there)
    # Behind both tails each goes round a ring, where a step never joins two
    # points that are apart: who are not together by then never will be.
    for many in range(max(turn, other_turn) + 1):
        if spot(points, turn, many) == spot(others, other_turn, many):
            return many
    return None


def least(road, point):
    """The least number of steps after which the point is back, or None."""
    points, turn = trace(road, road.on_road(point))
    return len(points) if turn == 0 else None
