"""The house: named roads, named walkers, and deeds that can be taken back."""

from crookroad.counts import check_count
from crookroad.errors import Apart, BadBottom, BadLine, BadName, NoRoad, NothingDone, NoWalker, Stood, Taken
from crookroad.parts import less, lowest
from crookroad.rings import lengths
from crookroad.road import Road
from crookroad.walk import FARTHEST, meeting
from crookroad.walker import set_down

LETTERS = "abcdefghijklmnopqrstuvwxyz"
LONGEST_NAME = 12
# Bottoms never grow: on a road of width 24 no trace of a walker has more than
# 24 * 40 + 1 points, so none is too long to be gone through.
GREATEST_BOTTOM = 40


def is_name(name):
    """Whether the text has the form of a name."""
    if len(name) < 1 or len(name) > LONGEST_NAME:
        return False
    return all([sign in LETTERS for sign in name])


def check_new_name(name, things):
    """Refuses a name that is none, or that one of the things has."""
    if not is_name(name):
        raise BadName("a name has 1 to 12 small letters")
    if name in things:
        raise Taken("the name is taken")


def exchange(things, changes):
    """Puts the changes, None for what goes, among the things; tells what was there, None for nothing."""
    before = {name: things.get(name) for name in changes}
    for name, thing in changes.items():
        if thing is None:
            del things[name]
        else:
            things[name] = thing
    return before


class House:
    """Named roads and named walkers; at first there are none."""

    def __init__(self):
        # Roads and walkers are never changed, only exchanged for others: so
        # what was ahead of a deed can be kept, and shared with a twin.
        self.roads = {}
        self.walkers = {}
        # For each deed what was there of the roads and of the walkers it changed.
        self.done = []

    def road_called(self, name):
        """The road of that name."""
        if name not in self.roads:
            raise NoRoad("no road has this name")
        return self.roads[name]

    def walker_called(self, name):
        """The walker of that name."""
        if name not in self.walkers:
            raise NoWalker("no walker has this name")
        return self.walkers[name]

    def walkers_on(self, whose):
        """The names of the walkers on that road, rising."""
        return [name for name in sorted(self.walkers) if self.walkers[name].whose == whose]

    def do(self, roads, walkers):
        """Does a deed, told by the roads and the walkers that it brings; None for those that go."""
        self.done.append((exchange(self.roads, roads), exchange(self.walkers, walkers)))

    def lay(self, name, heights):
        """Lays a road."""
        check_new_name(name, self.roads)
        self.do({name: Road(heights)}, {})

    def bend(self, name, corner, height):
        """Changes the height of a corner."""
        heights = self.road_called(name).corners()
        if corner < 0 or corner >= len(heights):
            raise BadLine("the road has no such corner")
        heights[corner] = height
        self.do({name: Road(heights)}, {})

    def widen(self, name, height):
        """Adds a corner at the far end."""
        heights = self.road_called(name).corners()
        self.do({name: Road(heights + [height])}, {})

    def narrow(self, name):
        """Takes the last corner away."""
        left = Road(self.road_called(name).corners()[:-1])
        end = (left.width(), 1)
        if any([less(end, self.walkers[walker].point) for walker in self.walkers_on(name)]):
            raise Stood("a walker stands beyond what would be left")
        self.do({name: left}, {})

    def clear(self, name):
        """Clears the road away."""
        self.road_called(name)
        if len(self.walkers_on(name)) > 0:
            raise Stood("a walker is on the road")
        self.do({name: None}, {})

    def place(self, name, whose, point):
        """Sets a walker down on a road."""
        check_new_name(name, self.walkers)
        road = self.road_called(whose)
        here = lowest(point[0], point[1])
        if here[1] > GREATEST_BOTTOM:
            raise BadBottom("the bottom of the point is too great")
        self.do({}, {name: set_down(whose, road.on_road(here))})

    def leave(self, name):
        """The walker leaves."""
        self.walker_called(name)
        self.do({}, {name: None})

    def go(self, name, many):
        """The walker goes so many steps; tells where they lead."""
        walker = self.walker_called(name)
        check_count(many, 0, FARTHEST)
        gone = walker.gone(self.roads[walker.whose], many)
        self.do({}, {name: gone})
        return gone.point

    def together(self, whose, many):
        """All walkers of the road go so many steps; tells each one's name and where they lead."""
        road = self.road_called(whose)
        check_count(many, 0, FARTHEST)
        gone = {name: self.walkers[name].gone(road, many) for name in self.walkers_on(whose)}
        self.do({}, gone)
        return [(name, walker.point) for name, walker in gone.items()]

    def take_back(self):
        """Takes the last deed back."""
        if len(self.done) == 0:
            raise NothingDone("there is no deed to take back")
        roads, walkers = self.done.pop()
        exchange(self.roads, roads)
        exchange(self.walkers, walkers)

    def forget(self):
        """Lets all stand as it is, with nothing to take back."""
        self.done = []

    def deeds(self):
        """How many deeds can be taken back."""
        return len(self.done)

    def names(self):
        """The roads' names and the walkers' names, each rising."""
        return (sorted(self.roads), sorted(self.walkers))

    def corners_of(self, name):
        """The heights of the road."""
        return self.road_called(name).corners()

    def where(self, name):
        """The name of the road that the walker is on, and the point at which it stands."""
        walker = self.walker_called(name)
        return (walker.whose, walker.point)

    def stood(self, name, point):
        """How often the walker has stood at the point."""
        walker = self.walker_called(name)
        return walker.times.get(lowest(point[0], point[1]), 0)

    def meet(self, one, other):
        """The least number of steps after which the two walkers would be at one point, or None."""
        here = self.walker_called(one)
        there = self.walker_called(other)
        if here.whose != there.whose:
            raise Apart("the two walkers are on two roads")
        return meeting(self.roads[here.whose], here.point, there.point)

    def lengths_of(self, name, most):
        """The lengths, up to the most, of the road."""
        return lengths(self.road_called(name), most)

    def twin(self):
        """Another house that stands as this one does, with the same deeds to take back."""
        other = House()
        other.roads = dict(self.roads)
        other.walkers = dict(self.walkers)
        other.done = list(self.done)
        return other
