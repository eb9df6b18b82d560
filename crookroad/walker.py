"""A walker of a house: where it stands, and how often it has stood at each point."""

from crookroad.walk import led_to, spot, trace


class Walker:
    """A walker as it is at one time; a change makes another one."""

    def __init__(self, whose, point, times):
        self.whose = whose
        self.point = point
        # Never changed once it is here: walkers of earlier times, and those of
        # twins, may share it.
        self.times = times

    def gone(self, road, many):
        """The walker when it has gone so many steps along the road."""
        points, turn = trace(road, self.point)
        times = dict(self.times)
        for place, point in enumerate(points):
            led = led_to(place, turn, len(points), many)
            if led > 0:
                times[point] = times.get(point, 0) + led
        return Walker(self.whose, spot(points, turn, many), times)


def set_down(whose, point):
    """A walker that has just been set down, at a point in lowest terms."""
    return Walker(whose, point, {point: 1})
