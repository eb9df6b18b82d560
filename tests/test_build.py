"""Roads made of roads: mirrored, finer, doubled, side by side, odd, for a number."""

import unittest
from fractions import Fraction

from helper import (FALLING, GREAT, MIXED, RISING, TENT, ZIGZAG, back_first, great_roads, lengths_on_line, line_over,
                    small_roads, step_from, too_long)

from crookroad.build import beside, doubled, finer, mirrored, odd_road, road_for
from crookroad.errors import BadCount, BadLine, TooLong
from crookroad.order import following
from crookroad.rings import lengths
from crookroad.road import Road

LEVEL = [7] * 25


def some_roads():
    return list(small_roads()) + list(great_roads())


def shortened(heights, most):
    """The greatest most, up to this one, for which no number of steps is too long."""
    while any(too_long(heights, many) for many in range(1, most + 1)):
        most -= 1
    return most


class Made(unittest.TestCase):

    def told(self, road, heights):
        self.assertIs(type(road), Road)
        self.assertEqual(road.corners(), heights)

    def refuse(self, error, build, *arguments):
        with self.subTest(build=build.__name__, arguments=arguments[1:]):
            with self.assertRaises(error) as caught:
                build(*arguments)
            self.assertIs(type(caught.exception), error)


class Mirrored(Made):

    def test_written_out(self):
        self.told(mirrored(Road([0, 0])), [1, 1])
        self.told(mirrored(Road([0, 1])), [0, 1])
        self.told(mirrored(Road([1, 0])), [1, 0])
        self.told(mirrored(Road([1, 2, 0])), [2, 0, 1])
        self.told(mirrored(Road(TENT)), [2, 0, 2])
        self.told(mirrored(Road(MIXED)), [1, 4, 5, 0, 0, 2])
        self.told(mirrored(Road(RISING)), RISING)
        self.told(mirrored(Road(FALLING)), FALLING)
        self.told(mirrored(Road(ZIGZAG)), [24, 0] * 12 + [24])
        self.told(mirrored(Road(LEVEL)), [17] * 25)

    def test_each_corner(self):
        for heights in some_roads():
            n = len(heights) - 1
            self.told(mirrored(Road(heights)), [n - heights[n - k] for k in range(n + 1)])

    def test_mirrored_twice(self):
        for heights in some_roads():
            self.told(mirrored(mirrored(Road(heights))), heights)

    def test_the_same_lengths(self):
        for heights in small_roads((1, 2)):
            self.assertEqual(lengths(mirrored(Road(heights)), 4), lengths(Road(heights), 4))


class Finer(Made):

    def test_written_out(self):
        self.told(finer(Road([0, 0]), 1), [0, 0])
        self.told(finer(Road([0, 1]), 2), [0, 1, 2])
        self.told(finer(Road([1, 0]), 3), [3, 2, 1, 0])
        self.told(finer(Road([1, 2, 0]), 3), [3, 4, 5, 6, 4, 2, 0])
        self.told(finer(Road(TENT), 2), [0, 2, 4, 2, 0])
        self.told(finer(Road(MIXED), 2), [6, 8, 10, 10, 10, 5, 0, 1, 2, 5, 8])
        self.told(finer(Road([0, 1]), 24), RISING)
        self.told(finer(Road([1, 0]), 24), FALLING)
        self.told(finer(Road([1, 1]), 24), [24] * 25)
        self.told(finer(Road([0, 12] * 6 + [0]), 2), [0, 12, 24, 12] * 6 + [0])
        for heights in (RISING, FALLING, ZIGZAG, LEVEL):
            self.told(finer(Road(heights), 1), heights)

    def test_each_corner(self):
        for heights in some_roads():
            n = len(heights) - 1
            for many in range(1, 24 // n + 1):
                wanted = [many * line_over(heights, Fraction(j, many)) for j in range(n * many + 1)]
                self.told(finer(Road(heights), many), wanted)

    def test_steps_lead_to_the_same_places(self):
        for heights in ([1, 2, 0], TENT, MIXED, [2, 0, 3, 1]):
            for many in (1, 2, 3, 4):
                road = finer(Road(heights), many)
                for top in range((len(heights) - 1) * 12 + 1):
                    point = road.at((top * many, 12))
                    self.assertEqual(Fraction(*point), many * step_from(heights, Fraction(top, 12)))

    def test_too_wide(self):
        for n in range(1, 25):
            self.assertEqual(finer(Road([0] * (n + 1)), 24 // n).corners(), [0] * (24 // n * n + 1))
            for many in (24 // n + 1, 24 // n + 2, 25, 26, 1000, 10 ** 18, GREAT):
                self.refuse(BadLine, finer, Road([0] * (n + 1)), many)

    def test_refused_numbers(self):
        for heights in ([0, 1], TENT, RISING, ZIGZAG):
            for many in (0, -1, -2, -24, -25, -GREAT):
                self.refuse(BadCount, finer, Road(heights), many)


class Doubled(Made):

    def test_written_out(self):
        self.told(doubled(Road([0, 0])), [2, 2, 0, 1])
        self.told(doubled(Road([0, 1])), [2, 3, 0, 1])
        self.told(doubled(Road([1, 0])), [3, 2, 0, 1])
        self.told(doubled(Road([1, 2, 0])), [4, 5, 3, 0, 1, 2])
        self.told(doubled(Road(TENT)), [3, 5, 3, 0, 1, 2])
        self.told(doubled(Road(list(range(12)))), list(range(12, 24)) + list(range(12)))
        self.told(doubled(Road([0, 11] * 6)), [12, 23] * 6 + list(range(12)))
        self.told(doubled(Road([5] * 12)), [17] * 12 + list(range(12)))

    def test_each_corner(self):
        for heights in some_roads():
            n = len(heights) - 1
            if n < 12:
                road = doubled(Road(heights))
                self.assertEqual(road.width(), 2 * n + 1)
                for k in range(n + 1):
                    self.assertEqual(road.corners()[k], n + 1 + heights[k])
                    self.assertEqual(road.corners()[n + 1 + k], k)

    def test_too_wide(self):
        for n in range(12, 25):
            self.refuse(BadLine, doubled, Road([0] * (n + 1)))
            self.refuse(BadLine, doubled, Road(list(range(n + 1))))
        self.assertEqual(doubled(Road([0] * 12)).width(), 23)

    def test_the_lengths_are_1_and_the_doubles(self):
        tried = 0
        for heights in list(small_roads((1, 2))) + [[2, 4, 3, 1, 0], [3, 2, 0, 1], [1, 2, 3, 0], [4, 5, 3, 0, 1, 2]]:
            road = doubled(Road(heights))
            most = shortened(road.corners(), 12)
            wanted = [1] + [2 * length for length in lengths_on_line(heights, max(most // 2, 1)) if 2 * length <= most]
            self.assertEqual(lengths(road, most), wanted, heights)
            tried += most
        self.assertGreater(tried, 300)


class Beside(Made):

    def test_written_out(self):
        self.told(beside(Road([0, 0]), Road([0, 0])), [0, 0, 2, 2])
        self.told(beside(Road([0, 1]), Road([1, 0])), [0, 1, 3, 2])
        self.told(beside(Road([1, 2, 0]), Road([1, 0])), [1, 2, 0, 4, 3])
        self.told(beside(Road([1, 0]), Road([1, 2, 0])), [1, 0, 3, 4, 2])
        self.told(beside(Road(MIXED), Road(TENT)), [3, 5, 5, 0, 1, 4, 6, 8, 6])
        self.told(beside(Road([0, 1]), Road(list(range(23)))), [0, 1] + list(range(2, 25)))
        self.told(beside(Road([0, 22] * 11 + [0]), Road([1, 1])), [0, 22] * 11 + [0, 24, 24])

    def test_each_corner(self):
        for heights in list(small_roads((1, 2))) + [MIXED]:
            for others in list(small_roads((1, 2))) + [MIXED]:
                beyond = len(heights)
                wanted = heights + [height + beyond for height in others]
                self.told(beside(Road(heights), Road(others)), wanted)

    def test_too_wide(self):
        for n in range(1, 25):
            for m in range(1, 25):
                one, other = Road([0] * (n + 1)), Road([m] * (m + 1))
                if n + 1 + m > 24:
                    self.refuse(BadLine, beside, one, other)
                else:
                    self.told(beside(one, other), [0] * (n + 1) + [n + 1 + m] * (m + 1))

    def test_a_road_beside_itself(self):
        road = Road([1, 2, 0])
        self.told(beside(road, road), [1, 2, 0, 4, 5, 3])
        self.assertEqual(road.corners(), [1, 2, 0])


class Odd(Made):

    def test_written_out(self):
        self.told(odd_road(1), [0, 0])
        self.told(odd_road(3), [1, 2, 0])
        self.told(odd_road(5), [2, 4, 3, 1, 0])
        self.told(odd_road(7), [3, 6, 5, 4, 2, 1, 0])
        self.told(odd_road(9), [4, 8, 7, 6, 5, 3, 2, 1, 0])
        self.told(odd_road(25), [12] + list(range(24, 12, -1)) + list(range(11, -1, -1)))

    def test_the_corners_make_one_ring(self):
        for number in range(3, 26, 2):
            heights = odd_road(number).corners()
            self.assertEqual(len(heights), number)
            self.assertEqual(sorted(heights), list(range(number)))
            self.assertEqual(back_first(heights, Fraction(0), number), number)

    def test_refused_numbers(self):
        for number in (0, 2, -1, -3, 26, 27, 28, 29, -GREAT, GREAT, GREAT + 1) + tuple(range(4, 25, 2)):
            with self.subTest(number=number):
                self.refuse(BadCount, odd_road, number)


class ForANumber(Made):

    def test_written_out(self):
        self.told(road_for(1), [0, 0])
        self.told(road_for(2), [2, 2, 0, 1])
        self.told(road_for(3), [1, 2, 0])
        self.told(road_for(4), [6, 6, 4, 5, 0, 1, 2, 3])
        self.told(road_for(5), [2, 4, 3, 1, 0])
        self.told(road_for(6), [4, 5, 3, 0, 1, 2])
        self.told(road_for(7), [3, 6, 5, 4, 2, 1, 0])
        self.told(road_for(8), [14, 14, 12, 13, 8, 9, 10, 11] + list(range(8)))
        self.told(road_for(9), [4, 8, 7, 6, 5, 3, 2, 1, 0])
        self.told(road_for(10), [7, 9, 8, 6, 5, 0, 1, 2, 3, 4])
        self.told(road_for(11), [5, 10, 9, 8, 7, 6, 4, 3, 2, 1, 0])
        self.told(road_for(12), [10, 11, 9, 6, 7, 8, 0, 1, 2, 3, 4, 5])

    def test_the_lengths_are_the_number_and_those_behind_it(self):
        for number in range(1, 13):
            road = road_for(number)
            most = shortened(road.corners(), 12)
            self.assertEqual(lengths(road, most), following(number, most), number)
            self.assertGreaterEqual(most, min(number, 8), number)
            if most < 12:
                with self.assertRaises(TooLong):
                    lengths(road, most + 1)

    def test_refused_numbers(self):
        for number in (0, -1, -2, -12, 13, 14, 16, 25, -GREAT, GREAT):
            with self.subTest(number=number):
                self.refuse(BadCount, road_for, number)


class NothingIsChanged(Made):

    def test_roads_handed_in(self):
        heights = [1, 2, 0]
        road, other = Road(heights), Road(MIXED)
        for told in (mirrored(road), finer(road, 2), finer(road, 1), doubled(road), beside(road, other)):
            told.corners().clear()
            heights.append(9)
            self.assertEqual(road.corners(), [1, 2, 0])
            self.assertEqual(other.corners(), MIXED)

    def test_each_road_is_a_new_one(self):
        road = Road([0, 1])
        for told in (mirrored(road), finer(road, 1)):
            self.assertIsNot(told, road)
        self.assertIsNot(odd_road(1), odd_road(1))
        self.assertIsNot(road_for(3), road_for(3))


if __name__ == "__main__":
    unittest.main()
