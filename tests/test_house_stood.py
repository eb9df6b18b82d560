"""How often a walker has stood at a point."""

import unittest
from collections import Counter
from fractions import Fraction

from helper import FALLING, GREAT, MIXED, RISING, TENT, ZIGZAG, as_point, fractions, step_from
from houses import FAR, house_of

from crookroad.road import Road
from crookroad.walk import stands


class StoodAt(unittest.TestCase):

    def stood(self, house, name, wanted, points=()):
        """The points at which the walker has stood, and how often; nowhere else."""
        places = set(wanted) | set(points) | {as_point(x) for x in fractions(7, (1, 2, 3, 4))}
        told = {point: house.stood(name, point) for point in places}
        self.assertEqual({point: times for point, times in told.items() if times != 0}, wanted)

    def test_being_set_down_counts_once(self):
        house = house_of({"a": TENT}, [("me", "a", (1, 2))])
        self.stood(house, "me", {(1, 2): 1})

    def test_each_step_counts_for_where_it_leads(self):
        house = house_of({"a": [1, 2, 0]}, [("me", "a", (1, 2))])
        house.go("me", 1)
        self.stood(house, "me", {(1, 2): 1, (3, 2): 1})
        house.go("me", 4)
        self.stood(house, "me", {(1, 2): 1, (3, 2): 1, (1, 1): 2, (2, 1): 1, (0, 1): 1})
        house.go("me", 1)
        self.stood(house, "me", {(1, 2): 1, (3, 2): 1, (1, 1): 2, (2, 1): 2, (0, 1): 1})

    def test_no_step_counts_nothing(self):
        house = house_of({"a": [1, 2, 0]}, [("me", "a", (1, 2))])
        for again in range(3):
            house.go("me", 0)
            house.together("a", 0)
        self.stood(house, "me", {(1, 2): 1})

    def test_standing_still_counts_each_step(self):
        house = house_of({"a": RISING}, [("me", "a", (7, 3))])
        house.go("me", 5)
        self.stood(house, "me", {(7, 3): 6})
        house.go("me", FAR)
        house.together("a", FAR)
        self.stood(house, "me", {(7, 3): 6 + 2 * FAR})

    def test_far_goings(self):
        house = house_of({"a": [1, 2, 0]}, [("me", "a", (1, 2)), ("you", "a", (2, 1))])
        house.go("me", FAR)
        third = (FAR - 1) // 3
        self.stood(house, "me", {(1, 2): 1, (3, 2): 1, (1, 1): third, (2, 1): third, (0, 1): third})
        self.stood(house, "you", {(2, 1): 1})
        house.together("a", 3 * 10 ** 59)
        tenth = 10 ** 59
        self.stood(house, "me", {(1, 2): 1, (3, 2): 1, (1, 1): third + tenth, (2, 1): third + tenth,
                                 (0, 1): third + tenth})
        self.stood(house, "you", {(2, 1): 1 + tenth, (0, 1): tenth, (1, 1): tenth})

    def test_two_places_in_turn(self):
        house = house_of({"a": FALLING}, [("me", "a", (1, 40))])
        house.go("me", FAR - 1)
        self.stood(house, "me", {(1, 40): FAR // 2, (959, 40): FAR // 2})
        house.go("me", 1)
        self.stood(house, "me", {(1, 40): FAR // 2 + 1, (959, 40): FAR // 2})

    def test_as_many_as_single_steps(self):
        for heights in ([1, 2, 0], TENT, MIXED, [0, 3, 0, 3], [4, 5, 3, 0, 1, 2], ZIGZAG):
            for start in ((0, 1), (1, 3), (5, 7), (1, 1), (3, 40)):
                for many in (0, 1, 2, 7, 30, 61):
                    house = house_of({"a": heights}, [("me", "a", start)])
                    path = [Fraction(*start)]
                    while len(path) <= many:
                        path.append(step_from(heights, path[-1]))
                    self.assertEqual(house.go("me", many), as_point(path[-1]))
                    wanted = Counter(as_point(x) for x in path)
                    told = {point: house.stood("me", point) for point in wanted}
                    self.assertEqual(told, dict(wanted))

    def test_a_going_parted_in_two(self):
        for heights in (TENT, MIXED, [2, 4, 3, 1, 0], ZIGZAG):
            for one, other in ((0, FAR), (1, FAR - 1), (7, 11), (FAR // 3, FAR // 7)):
                house = house_of({"a": heights}, [("me", "a", (1, 7)), ("you", "a", (1, 7))])
                house.go("me", min(one + other, FAR))
                house.go("you", one)
                house.go("you", other)
                for x in fractions(len(heights) - 1, (7,)):
                    point = as_point(x)
                    wanted = stands(Road(heights), (1, 7), one + other, point) + (point == (1, 7))
                    self.assertEqual(house.stood("me", point), wanted)
                    self.assertEqual(house.stood("you", point), wanted)

    def test_along_the_road_as_it_was(self):
        house = house_of({"a": [1, 2, 0]}, [("me", "a", (0, 1))])
        house.go("me", 3)
        self.stood(house, "me", {(0, 1): 2, (1, 1): 1, (2, 1): 1})
        house.bend("a", 0, 0)
        self.stood(house, "me", {(0, 1): 2, (1, 1): 1, (2, 1): 1})
        house.go("me", 10)
        self.stood(house, "me", {(0, 1): 12, (1, 1): 1, (2, 1): 1})
        house.widen("a", 3)
        house.bend("a", 0, 3)
        self.stood(house, "me", {(0, 1): 12, (1, 1): 1, (2, 1): 1})
        house.go("me", 5)
        self.stood(house, "me", {(0, 1): 12, (1, 1): 1, (2, 1): 1, (3, 1): 5})

    def test_points_that_the_road_has_no_longer(self):
        house = house_of({"a": [3, 1, 2, 0]}, [("me", "a", (0, 1))])
        house.go("me", 2)
        self.stood(house, "me", {(0, 1): 2, (3, 1): 1})
        house.bend("a", 0, 0)
        house.narrow("a")
        self.stood(house, "me", {(0, 1): 2, (3, 1): 1})

    def test_leaving_and_being_set_down_anew(self):
        house = house_of({"a": [1, 2, 0], "b": [0, 1]}, [("me", "a", (0, 1))])
        house.go("me", 9)
        house.leave("me")
        house.place("me", "a", (1, 1))
        self.stood(house, "me", {(1, 1): 1})
        house.go("me", 1)
        self.stood(house, "me", {(1, 1): 1, (2, 1): 1})
        house.leave("me")
        house.place("me", "b", (1, 1))
        self.stood(house, "me", {(1, 1): 1})

    def test_another_walker_counts_for_itself(self):
        house = house_of({"a": [1, 2, 0]}, [("me", "a", (0, 1)), ("you", "a", (0, 1))])
        house.go("me", 3)
        self.stood(house, "you", {(0, 1): 1})
        house.leave("me")
        house.place("she", "a", (0, 1))
        self.stood(house, "she", {(0, 1): 1})

    def test_takings_back(self):
        house = house_of({"a": [1, 2, 0]}, [("me", "a", (0, 1))])
        house.go("me", 4)
        house.together("a", FAR)
        house.take_back()
        self.stood(house, "me", {(0, 1): 2, (1, 1): 2, (2, 1): 1})
        house.leave("me")
        house.place("me", "a", (1, 2))
        house.go("me", 1)
        self.stood(house, "me", {(1, 2): 1, (3, 2): 1})
        house.take_back()
        self.stood(house, "me", {(1, 2): 1})
        house.take_back()
        house.take_back()
        self.stood(house, "me", {(0, 1): 2, (1, 1): 2, (2, 1): 1})
        house.take_back()
        self.stood(house, "me", {(0, 1): 1})
        house.go("me", 1)
        self.stood(house, "me", {(0, 1): 1, (1, 1): 1})

    def test_taking_a_bend_back_counts_nothing(self):
        house = house_of({"a": [1, 2, 0]}, [("me", "a", (0, 1))])
        house.bend("a", 0, 0)
        house.go("me", 2)
        self.stood(house, "me", {(0, 1): 3})
        house.take_back()
        house.take_back()
        house.go("me", 2)
        self.stood(house, "me", {(0, 1): 1, (1, 1): 1, (2, 1): 1})

    def test_points_that_are_not_in_lowest_terms(self):
        house = house_of({"a": TENT}, [("me", "a", (1, 2)), ("you", "a", (0, 1))])
        for many in (1, 2, 3, 41, 10 ** 69):
            self.assertEqual(house.stood("me", (many, 2 * many)), 1)
            self.assertEqual(house.stood("you", (0, many)), 1)

    def test_points_off_the_road(self):
        house = house_of({"a": TENT}, [("me", "a", (1, 2))])
        house.go("me", FAR)
        for point in ((-1, 2), (5, 2), (3, 1), (GREAT, 1), (-GREAT, 1), (1, 41), (1, GREAT), (-1, 41), (-3, 3)):
            self.assertEqual(house.stood("me", point), 0)

    def test_asking_counts_nothing(self):
        house = house_of({"a": TENT}, [("me", "a", (1, 2)), ("you", "a", (0, 1))])
        for again in range(3):
            self.assertEqual(house.stood("me", (1, 2)), 1)
            self.assertEqual(house.stood("me", (1, 1)), 0)
            house.where("me")
            house.meet("me", "you")
        self.assertEqual(house.deeds(), 3)


if __name__ == "__main__":
    unittest.main()
