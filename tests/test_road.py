"""Roads: heights, stretches, and one step."""

import unittest
from fractions import Fraction

from helper import FALLING, GREAT, MIXED, PRIME, RISING, ZIGZAG, great_roads, line_over, small_roads

from crookroad.errors import BadBottom, BadLine, BadRow, OffRoad
from crookroad.road import Road


class Making(unittest.TestCase):

    def test_widths_and_corners(self):
        for width in range(1, 25):
            for heights in ([0] * (width + 1), [width] * (width + 1),
                            list(range(width + 1)), [k * 5 % (width + 1) for k in range(width + 1)]):
                road = Road(heights)
                self.assertEqual(road.width(), width)
                self.assertIs(type(road.corners()), list)
                self.assertEqual(road.corners(), heights)

    def test_every_small_road(self):
        for heights in small_roads():
            road = Road(heights)
            self.assertEqual(road.width(), len(heights) - 1)
            self.assertEqual(road.corners(), heights)

    def test_wrong_numbers_of_heights(self):
        for heights in ([], [0], [1], [-1], [0] * 26, list(range(26)), [3] * 27, [0] * 100):
            with self.subTest(many=len(heights)):
                with self.assertRaises(BadLine):
                    Road(heights)

    def test_wrong_height_at_any_place(self):
        for width in (1, 2, 7, 24):
            for place in range(width + 1):
                for wrong in (-1, -GREAT, width + 1, GREAT):
                    heights = [k % 2 for k in range(width + 1)]
                    heights[place] = wrong
                    before = list(heights)
                    with self.subTest(width=width, place=place, wrong=wrong):
                        with self.assertRaises(BadLine):
                            Road(heights)
                        self.assertEqual(heights, before)

    def test_the_list_handed_in_is_neither_changed_nor_kept(self):
        heights = list(MIXED)
        road = Road(heights)
        self.assertEqual(heights, MIXED)
        heights[0] = 99
        heights.append(7)
        self.check_mixed(road)
        heights.clear()
        self.check_mixed(road)

    def test_a_told_list_is_a_new_one(self):
        road = Road(list(MIXED))
        told = road.corners()
        told[1] = 0
        told.pop()
        self.check_mixed(road)
        self.assertIsNot(road.corners(), road.corners())

    def test_roads_share_nothing(self):
        heights = list(MIXED)
        one = Road(heights)
        heights[0] = 4
        other = Road(heights)
        self.check_mixed(one)
        self.assertEqual(other.corners(), [4, 5, 5, 0, 1, 4])

    def check_mixed(self, road):
        self.assertEqual(road.width(), 5)
        self.assertEqual(road.corners(), [3, 5, 5, 0, 1, 4])
        self.assertEqual([road.slope(k) for k in range(5)], [2, 0, -5, 1, 3])
        self.assertEqual(road.reach(2), (0, 5))
        self.assertEqual(road.at((1, 2)), (4, 1))
        self.assertEqual(road.at((5, 1)), (4, 1))

    def test_refusals_change_nothing(self):
        road = Road(list(MIXED))
        point = (6, 1)
        for refused, deed in ((OffRoad, lambda: road.at(point)), (BadBottom, lambda: road.at((1, 0))),
                              (BadRow, lambda: road.slope(5)), (BadRow, lambda: road.reach(-1))):
            with self.assertRaises(refused):
                deed()
            self.check_mixed(road)
        self.assertEqual(point, (6, 1))


class Stretches(unittest.TestCase):

    def check(self, heights):
        road = Road(heights)
        for stretch in range(len(heights) - 1):
            left, right = heights[stretch:stretch + 2]
            self.assertEqual(road.slope(stretch), right - left)
            told = road.reach(stretch)
            self.assertIs(type(told), tuple)
            self.assertEqual(told, tuple(sorted((left, right))))

    def test_written_out(self):
        road = Road(MIXED)
        self.assertEqual([road.slope(k) for k in range(5)], [2, 0, -5, 1, 3])
        self.assertEqual([road.reach(k) for k in range(5)], [(3, 5), (5, 5), (0, 5), (0, 1), (1, 4)])

    def test_rising_falling_level(self):
        for width in (1, 2, 5, 24):
            rising = list(range(width + 1))
            self.assertEqual([Road(rising).slope(k) for k in range(width)], [1] * width)
            self.assertEqual([Road(rising[::-1]).slope(k) for k in range(width)], [-1] * width)
            self.assertEqual([Road([1] * (width + 1)).slope(k) for k in range(width)], [0] * width)
            self.assertEqual([Road(rising).reach(k) for k in range(width)],
                             [(k, k + 1) for k in range(width)])
            self.assertEqual([Road(rising[::-1]).reach(k) for k in range(width)],
                             [(width - k - 1, width - k) for k in range(width)])
            self.assertEqual([Road([1] * (width + 1)).reach(k) for k in range(width)], [(1, 1)] * width)

    def test_every_stretch(self):
        for heights in list(small_roads()) + list(great_roads()):
            self.check(heights)

    def test_no_such_stretch(self):
        for heights in ([0, 1], [1, 0], [1, 1, 1], MIXED, RISING, FALLING, ZIGZAG):
            road = Road(heights)
            width = len(heights) - 1
            for stretch in (-1, -2, -width, -width - 1, -GREAT, width, width + 1, GREAT):
                with self.subTest(width=width, stretch=stretch):
                    with self.assertRaises(BadRow):
                        road.slope(stretch)
                    with self.assertRaises(BadRow):
                        road.reach(stretch)


class Steps(unittest.TestCase):

    def check(self, heights, point):
        told = Road(heights).at(point)
        self.assertIs(type(told), tuple)
        wanted = line_over(heights, Fraction(point[0], point[1]))
        self.assertEqual(told, (wanted.numerator, wanted.denominator), (heights, point))
        self.assertEqual(point[1] % told[1], 0)
        return told

    def test_written_out(self):
        road = Road(MIXED)
        self.assertEqual(road.at((0, 1)), (3, 1))
        self.assertEqual(road.at((5, 1)), (4, 1))
        self.assertEqual(road.at((1, 3)), (11, 3))
        self.assertEqual(road.at((1, 4)), (7, 2))
        self.assertEqual(road.at((12, 8)), (5, 1))
        self.assertEqual(road.at((29, 7)), (10, 7))
        self.assertEqual(Road([0, 0]).at((1, 2)), (0, 1))
        self.assertEqual(Road([0, 0]).at((1, 1)), (0, 1))

    def test_corners_and_both_ends(self):
        for heights in list(small_roads()) + list(great_roads()):
            road = Road(heights)
            for k, height in enumerate(heights):
                self.assertEqual(road.at((k, 1)), (height, 1))
                self.assertEqual(road.at((k * 6, 6)), (height, 1))
                self.assertEqual(road.at((k * PRIME, PRIME)), (height, 1))

    def test_small_points_on_every_small_road(self):
        for heights in small_roads():
            for bottom in range(1, 7):
                for top in range((len(heights) - 1) * bottom + 1):
                    self.check(heights, (top, bottom))

    def test_points_on_great_roads(self):
        for heights in great_roads():
            for bottom in (1, 2, 3, 5, 12, 35):
                for top in range((len(heights) - 1) * bottom + 1):
                    self.check(heights, (top, bottom))

    def test_not_in_lowest_terms(self):
        road = Road(MIXED)
        for many in (2, 3, 5, 10, PRIME):
            for top, bottom in ((1, 2), (7, 3), (9, 2), (0, 1), (5, 1), (11, 4)):
                self.assertEqual(road.at((top * many, bottom * many)), road.at((top, bottom)))
                self.check(MIXED, (top * many, bottom * many))

    def test_bottoms_of_many_figures(self):
        for heights in great_roads():
            width = len(heights) - 1
            for bottom in (GREAT // 100, PRIME, 10 ** 68, 3 ** 140, 2 ** 220):
                for top in (0, 1, bottom - 1, bottom, bottom + 1, bottom // 2, width * bottom // 3,
                            2 * bottom - 1, width * bottom - 1, width * bottom):
                    if top <= width * bottom:
                        self.check(heights, (top, bottom))

    def test_no_bottom_grows_by_a_step(self):
        for heights in great_roads():
            road = Road(heights)
            for point in ((1, 2), (2, 3), (5, 12), (7, 30), (99, 100), (1, PRIME), (123, 10 ** 60)):
                for step in range(60):
                    told = self.check(heights, point)
                    self.assertLessEqual(told[1], point[1])
                    self.assertEqual(told, road.at(point))
                    point = told

    def test_asking_changes_nothing(self):
        road = Road(MIXED)
        first = [road.at((k, 4)) for k in range(21)]
        self.assertEqual([road.at((k, 4)) for k in range(21)], first)
        self.assertEqual(road.corners(), MIXED)

    def test_bad_bottom(self):
        for heights in ([0, 1], MIXED, ZIGZAG):
            for bottom in (0, -1, -3, -GREAT):
                for top in (0, 1, -1, bottom):
                    with self.subTest(top=top, bottom=bottom):
                        with self.assertRaises(BadBottom):
                            Road(heights).at((top, bottom))

    def test_off_road(self):
        for heights in ([0, 1], [2, 0, 1], MIXED, ZIGZAG):
            width = len(heights) - 1
            for bottom in (1, 2, 3, 40, PRIME):
                for top in (-1, -bottom, -GREAT, width * bottom + 1, (width + 1) * bottom, GREAT):
                    with self.subTest(top=top, bottom=bottom):
                        with self.assertRaises(OffRoad):
                            Road(heights).at((top, bottom))

    def test_bad_bottom_goes_ahead_of_off_road(self):
        for top, bottom in ((-1, 0), (6, 0), (GREAT, 0), (6, -1), (-6, -1), (-1, -2), (1, -2),
                            (-GREAT, -1), (GREAT, -GREAT)):
            with self.subTest(top=top, bottom=bottom):
                with self.assertRaises(BadBottom):
                    Road(MIXED).at((top, bottom))


if __name__ == "__main__":
    unittest.main()
