"""Roads made of roads."""

from crookroad.counts import check_count
from crookroad.errors import BadCount, BadLine
from crookroad.order import halvings
from crookroad.road import WIDEST, Road

GREATEST_ODD = 25
GREATEST_BUILT = 12


def mirrored(road):
    """The road turned by half a turn round its middle."""
    width = road.width()
    return Road([width - height for height in reversed(road.corners())])


def finer(road, many):
    """The road with each stretch parted into so many, and all heights as many times as great."""
    check_count(many, 1)
    # The number has no bound of its own: a list is not made as long as it says.
    if road.width() * many > WIDEST:
        raise BadLine("the finer road is too wide")
    heights = [
        many * road.ends(stretch)[0] + road.slope(stretch) * beyond
        for stretch in range(road.width())
        for beyond in range(many)
    ]
    return Road(heights + [many * road.corners()[-1]])


def doubled(road):
    """The road on which two steps, from 0 to the width, lead as one step on this one."""
    width = road.width()
    return Road([width + 1 + height for height in road.corners()] + list(range(width + 1)))


def beside(road, other):
    """The two roads side by side, the first one to the left."""
    beyond = road.width() + 1
    return Road(road.corners() + [beyond + height for height in other.corners()])


def odd_road(number):
    """The road whose corners make one ring of so many points; for 1 the level one."""
    if number == 1:
        return Road([0, 0])
    check_count(number, 3, GREATEST_ODD)
    if number % 2 == 0:
        raise BadCount("the number is not odd")
    half = number // 2
    upper = [number - corner for corner in range(1, half + 1)]
    lower = [number - 1 - corner for corner in range(half + 1, number)]
    return Road([half] + upper + lower)


def road_for(number):
    """The road whose lengths are the number and those behind it."""
    check_count(number, 1, GREATEST_BUILT)
    odd, halved = halvings(number)
    road = odd_road(odd)
    while halved > 0:
        road = doubled(road)
        halved -= 1
    return road
