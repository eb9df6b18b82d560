"""A road: a bent line over the stretch from 0 to its width."""

from crookroad.errors import BadLine, BadRow, OffRoad
from crookroad.parts import lowest

WIDEST = 24


def is_line(heights):
    """Whether the list of whole numbers makes a road."""
    width = len(heights) - 1
    if width < 1 or width > WIDEST:
        return False
    return min(heights) >= 0 and max(heights) <= width


class Road:
    """A bent line with a corner over each whole number."""

    def __init__(self, heights):
        if not is_line(heights):
            raise BadLine("these heights make no road")
        # A copy: the list handed in may be changed later.
        self.heights = list(heights)

    def width(self):
        """How far the road goes."""
        return len(self.heights) - 1

    def corners(self):
        """A new list of the heights, the one over 0 first."""
        return list(self.heights)

    def ends(self, stretch):
        """The heights at the left and the right end of the stretch."""
        if stretch < 0 or stretch >= self.width():
            raise BadRow("the road has no such stretch")
        return (self.heights[stretch], self.heights[stretch + 1])

    def slope(self, stretch):
        """How much the line rises along the stretch."""
        left, right = self.ends(stretch)
        return right - left

    def reach(self, stretch):
        """The lesser and the greater height of the stretch."""
        left, right = self.ends(stretch)
        return (min(left, right), max(left, right))

    def on_road(self, point):
        """The point in lowest terms, refused where it is not on the road."""
        top, bottom = lowest(point[0], point[1])
        if top < 0 or top > self.width() * bottom:
            raise OffRoad("the point does not lie on the road")
        return (top, bottom)

    def at(self, point):
        """The point one step on."""
        top, bottom = self.on_road(point)
        # The road's far end begins no stretch: it is the end of the last one.
        stretch = min(top // bottom, self.width() - 1)
        left, right = self.ends(stretch)
        beyond = top - stretch * bottom
        return lowest(left * bottom + (right - left) * beyond, bottom)
