"""What the tests of the house share: all that can be asked of one, and a slow but plain house."""

from fractions import Fraction

from helper import as_point, step_from, steps_from

from crookroad.errors import (Apart, BadBottom, BadCount, BadLine, BadName, NoRoad, NothingDone, NoWalker, OffRoad,
                              RoadError, Stood, Taken)
from crookroad.house import House
from crookroad.notes import house_text
from crookroad.rings import lengths
from crookroad.road import Road

FAR = 10 ** 60
POINTS = sorted({as_point(Fraction(top, bottom)) for bottom in (1, 2, 3, 5, 40) for top in range(-1, 7 * bottom)})


def told(call, *arguments):
    """What a call tells, or the class of its refusal."""
    try:
        return call(*arguments)
    except RoadError as refusal:
        return type(refusal)


def asked(house, points=POINTS):
    """All that can be asked of a house."""
    roads, walkers = house.names()
    return {
        "names": (roads, walkers),
        "deeds": house.deeds(),
        "corners": [house.corners_of(name) for name in roads],
        "where": [house.where(name) for name in walkers],
        "stood": [[house.stood(name, point) for point in points] for name in walkers],
        "meet": [told(house.meet, one, other) for one in walkers for other in walkers],
        "lengths": [told(house.lengths_of, name, most) for name in roads for most in (1, 3)],
        "text": house_text(house),
    }


def asked_to_the_end(house, points=POINTS):
    """All that can be asked of a house, and behind each deed that is taken back from it."""
    other = house.twin()
    answers = [asked(other, points)]
    while other.deeds() > 0:
        other.take_back()
        answers.append(asked(other, points))
    return answers


def house_of(roads, walkers=()):
    """A house with these roads, and walkers told as (name, road, point)."""
    house = House()
    for name, heights in roads.items():
        house.lay(name, heights)
    for walker in walkers:
        house.place(*walker)
    return house


def is_road(heights):
    return 2 <= len(heights) <= 25 and all(0 <= height < len(heights) for height in heights)


def is_name(name):
    return 1 <= len(name) <= 12 and set(name) <= set("abcdefghijklmnopqrstuvwxyz")


class SlowHouse:
    """A house that keeps each step of each walker, and for each deed a copy of all."""

    def __init__(self):
        self.lines = {}
        self.paths = {}
        self.kept = []

    def keep(self):
        self.kept.append(({name: list(line) for name, line in self.lines.items()},
                          {name: (whose, list(path)) for name, (whose, path) in self.paths.items()}))

    def line(self, name):
        if name not in self.lines:
            raise NoRoad
        return list(self.lines[name])

    def path(self, name):
        if name not in self.paths:
            raise NoWalker
        return self.paths[name]

    def change(self, name, heights):
        if not is_road(heights):
            raise BadLine
        self.keep()
        self.lines[name] = list(heights)

    def lay(self, name, heights):
        if not is_name(name):
            raise BadName
        if name in self.lines:
            raise Taken
        self.change(name, heights)

    def bend(self, name, corner, height):
        heights = self.line(name)
        if corner not in range(len(heights)):
            raise BadLine
        heights[corner] = height
        self.change(name, heights)

    def widen(self, name, height):
        self.change(name, self.line(name) + [height])

    def narrow(self, name):
        heights = self.line(name)[:-1]
        if is_road(heights) and any(whose == name and path[-1] > len(heights) - 1 for whose, path in self.paths.values()):
            raise Stood
        self.change(name, heights)

    def clear(self, name):
        self.line(name)
        if any(whose == name for whose, path in self.paths.values()):
            raise Stood
        self.keep()
        del self.lines[name]

    def place(self, name, whose, point):
        if not is_name(name):
            raise BadName
        if name in self.paths:
            raise Taken
        width = len(self.line(whose)) - 1
        if point[1] < 1 or Fraction(*point).denominator > 40:
            raise BadBottom
        if not 0 <= Fraction(*point) <= width:
            raise OffRoad
        self.keep()
        self.paths[name] = (whose, [Fraction(*point)])

    def leave(self, name):
        self.path(name)
        self.keep()
        del self.paths[name]

    def check_many(self, many):
        if many < 0 or many > FAR:
            raise BadCount

    def onward(self, name, many):
        whose, path = self.paths[name]
        for k in range(many):
            path.append(step_from(self.lines[whose], path[-1]))
        return as_point(path[-1])

    def go(self, name, many):
        self.path(name)
        self.check_many(many)
        self.keep()
        return self.onward(name, many)

    def together(self, whose, many):
        self.line(whose)
        self.check_many(many)
        self.keep()
        return [(name, self.onward(name, many)) for name in sorted(self.paths) if self.paths[name][0] == whose]

    def take_back(self):
        if not self.kept:
            raise NothingDone
        self.lines, self.paths = self.kept.pop()

    def answers(self, points=POINTS):
        """What `asked` tells of the house that this one stands for."""
        roads, walkers = sorted(self.lines), sorted(self.paths)
        return {
            "names": (roads, walkers),
            "deeds": len(self.kept),
            "corners": [self.lines[name] for name in roads],
            "where": [(self.paths[name][0], as_point(self.paths[name][1][-1])) for name in walkers],
            "stood": [self.stood(name, points) for name in walkers],
            "meet": [self.meet(one, other) for one in walkers for other in walkers],
            "lengths": [told(lengths, Road(self.lines[name]), most) for name in roads for most in (1, 3)],
            "text": self.text(),
        }

    def stood(self, name, points):
        visits = [as_point(x) for x in self.paths[name][1]]
        return [visits.count(point) for point in points]

    def meet(self, one, other):
        (whose, path), (others, other_path) = self.paths[one], self.paths[other]
        if whose != others:
            return Apart
        here, there = path[-1], other_path[-1]
        seen = set()
        while here != there and (here, there) not in seen:
            seen.add((here, there))
            here, there = steps_from(self.lines[whose], here, 1), steps_from(self.lines[whose], there, 1)
        return len(seen) if here == there else None

    def text(self):
        rows = ["road " + name + "".join(f" {height}" for height in self.lines[name]) for name in sorted(self.lines)]
        for name in sorted(self.paths):
            whose, path = self.paths[name]
            rows.append(f"walker {name} {whose} {path[-1].numerator} {path[-1].denominator}")
        return "\n".join(rows)
