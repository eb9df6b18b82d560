"""The whole program: what is promised of roads holds of those that are made of roads or stand in a house."""

import unittest
from fractions import Fraction

from helper import (FAR, MIXED, TENT, as_point, back_first, back_on_line, fractions, lengths_on_line, step_from,
                    steps_from, table_of, too_long)
from houses import house_of

from crookroad.build import beside, doubled, finer, mirrored, odd_road, road_for
from crookroad.cover import covered, rows, ways
from crookroad.house import House
from crookroad.laid import laid, laps
from crookroad.notes import house_text, read_house
from crookroad.order import following
from crookroad.rings import back, lengths, point_of, ring
from crookroad.road import Road
from crookroad.walk import far, least, meeting, stands, tail_ring, walked


def made_roads():
    """Roads of each kind that is made of roads, with the heights that they have by the document."""
    n = len(MIXED) - 1
    return (
        (mirrored(Road(MIXED)), [n - height for height in reversed(MIXED)]),
        (finer(Road([1, 2, 0]), 2), [2, 3, 4, 2, 0]),
        (finer(Road([1, 0]), 24), list(range(24, -1, -1))),
        (doubled(Road([1, 0])), [3, 2, 0, 1]),
        (doubled(doubled(Road([0, 1]))), [6, 7, 4, 5, 0, 1, 2, 3]),
        (beside(Road([1, 2, 0]), Road([1, 0])), [1, 2, 0, 4, 3]),
        (beside(road_for(2), mirrored(Road(TENT))), [2, 2, 0, 1, 6, 4, 6]),
        (odd_road(1), [0, 0]),
        (odd_road(7), [3, 6, 5, 4, 2, 1, 0]),
        (odd_road(25), [12] + list(range(24, 12, -1)) + list(range(11, -1, -1))),
        (road_for(6), [4, 5, 3, 0, 1, 2]),
        (road_for(8), [14, 14, 12, 13, 8, 9, 10, 11, 0, 1, 2, 3, 4, 5, 6, 7]),
        (mirrored(doubled(finer(Road([0, 1, 0]), 2))), [5, 6, 7, 8, 9, 4, 3, 2, 3, 4]),
    )


class MadeRoads(unittest.TestCase):

    def test_heights_and_stretches(self):
        for road, heights in made_roads():
            self.assertEqual(road.corners(), heights)
            self.assertEqual(road.width(), len(heights) - 1)
            for k, (left, right) in enumerate(zip(heights, heights[1:])):
                self.assertEqual(road.slope(k), right - left)
                self.assertEqual(road.reach(k), (min(left, right), max(left, right)))
                self.assertEqual(covered(road, k), list(range(min(left, right), max(left, right))))

    def test_steps(self):
        for road, heights in made_roads():
            for x in fractions(road.width(), (1, 2, 3, 7)):
                self.assertEqual(road.at(as_point(x)), as_point(step_from(heights, x)))
                self.assertEqual(walked(road, as_point(x), 9)[9], as_point(steps_from(heights, x, 9)))
                self.assertEqual(far(road, as_point(x), 9), as_point(steps_from(heights, x, 9)))

    def test_ways_and_closed_rows(self):
        for road, heights in made_roads():
            for many in (1, 2, 3, 5):
                self.assertEqual(ways(road, many), table_of(heights, many))
                if not too_long(heights, many):
                    closed = rows(road, many)
                    self.assertEqual(len(closed), sum(line[k] for k, line in enumerate(table_of(heights, many))))
                    for row in closed:
                        point = point_of(road, row)
                        if point is not None:
                            self.assertEqual(steps_from(heights, Fraction(*point), many), Fraction(*point))

    def test_coming_back(self):
        for road, heights in made_roads():
            for many in (1, 2, 3, 4, 6):
                if too_long(heights, many):
                    continue
                points, wholes = back_on_line(heights, many)
                self.assertEqual(back(road, many), ([as_point(x) for x in points], wholes))
                for x in points:
                    self.assertEqual(least(road, as_point(x)), back_first(heights, x, many))

    def test_lengths_and_the_order_of_lengths(self):
        for road, heights in made_roads():
            for most in (1, 4, 7):
                if any(too_long(heights, many) for many in range(1, most + 1)):
                    continue
                found = lengths(road, most)
                self.assertEqual(found, lengths_on_line(heights, most))
                for length in range(1, most + 1):
                    told = ring(road, length)
                    self.assertEqual(told is not None, length in found)
                    if told is not None:
                        self.assertEqual(tail_ring(road, told[0]), ([], told))
                        self.assertLessEqual(set(following(length, most)), set(found))

    def test_laid_out_they_cross_where_they_come_back(self):
        for road, heights in made_roads():
            for many in (1, 2, 3):
                line = laid(road, many)
                self.assertLessEqual(laps(road, many), laps(road, 1) ** many)
                points, wholes = back(road, many)
                corners_back = [point for point, height in line if point == (height, 1)]
                for point in corners_back:
                    inside = [k for k in wholes if k <= point[0] <= k + 1]
                    self.assertTrue(point in points or inside)


class RoadsInAHouse(unittest.TestCase):

    def built(self):
        house = House()
        names = []
        for k, (road, heights) in enumerate(made_roads()):
            names.append("abcdefghijklmnop"[k])
            house.lay(names[-1], road.corners())
        return house, names

    def test_they_stand_as_they_were_made(self):
        house, names = self.built()
        again = read_house(house_text(house))
        for name, (road, heights) in zip(names, made_roads()):
            for told in (house, again, house.twin()):
                self.assertEqual(told.corners_of(name), heights)
                if not any(too_long(heights, many) for many in range(1, 5)):
                    self.assertEqual(told.lengths_of(name, 4), lengths_on_line(heights, 4))

    def test_walkers_go_as_points_do(self):
        house, names = self.built()
        for name, (road, heights) in zip(names, made_roads()):
            house.place("me", name, (1, 7))
            house.place("you", name, (6, 7))
            self.assertEqual(house.meet("me", "you"), meeting(road, (1, 7), (6, 7)))
            for many in (1, 4, FAR):
                here = house.where("me")[1]
                before = {point: house.stood("me", point) for point in [as_point(x) for x in fractions(road.width(), (7,))]}
                self.assertEqual(house.go("me", many), far(road, here, many))
                for point, times in before.items():
                    self.assertEqual(house.stood("me", point) - times, stands(road, here, many, point))
            house.leave("me")
            house.leave("you")

    def test_a_road_changed_step_by_step_is_the_road_of_its_heights(self):
        house = house_of({"a": [0, 1]}, [("me", "a", (1, 3))])
        deeds = ((house.widen, 0), (house.bend, 0, 2), (house.widen, 3), (house.bend, 1, 3), (house.bend, 3, 1),
                 (house.widen, 4), (house.bend, 4, 0), (house.narrow,), (house.bend, 2, 1))
        for deed, *arguments in deeds:
            deed("a", *arguments)
            heights = house.corners_of("a")
            self.assertEqual(house.go("me", 3), as_point(steps_from(heights, Fraction(*house_before(house, "me")), 3)))
            self.assertEqual(house.lengths_of("a", 3), lengths_on_line(heights, 3))
        self.assertEqual(house.corners_of("a"), [2, 3, 1, 1])


def house_before(house, name):
    """Where the walker stood ahead of the last deed."""
    twin = house.twin()
    twin.take_back()
    return twin.where(name)[1]


if __name__ == "__main__":
    unittest.main()
