"""Coming back: points of closed rows, what is back, lengths, rings."""

import unittest
from fractions import Fraction
from itertools import product

from helper import (FALLING, GREAT, LAYERS, MIXED, RISING, TENT, ZIGZAG, as_point, back_first, back_on_line,
                    fractions, is_row, lengths_on_line, small_roads, step_from, steps_from, too_long)

from crookroad.cover import rows
from crookroad.errors import BadCount, BadRow, TooLong
from crookroad.order import following
from crookroad.rings import back, lengths, point_of, ring
from crookroad.road import Road

FIVE = [2, 4, 3, 1, 0]
DOUBLED = [4, 5, 3, 0, 1, 2]
DOUBLED_TWICE = [10, 11, 9, 6, 7, 8, 0, 1, 2, 3, 4, 5]
WIDER = [FIVE, MIXED, DOUBLED, DOUBLED_TWICE, LAYERS, RISING, FALLING, [12] * 25, list(range(1, 25)) + [0],
         [3, 4, 3, 2, 0], [1, 0, 2, 3, 3], [0, 1, 0, 3, 4, 2], [1, 0, 3, 2, 5, 4, 6], [5, 4, 3, 3, 1, 0],
         [1, 2, 1, 0, 4, 5, 4]]
REFUSED = (0, -1, -12, -GREAT, 13, 14, GREAT)


def goes_along(heights, row, x):
    """Whether x is at each step in the stretch that is due, and back at the end."""
    here = x
    for stretch in row:
        if not stretch <= here <= stretch + 1:
            return False
        here = step_from(heights, here)
    return here == x


def slopes_along(heights, row):
    slope = 1
    for stretch in row:
        slope *= heights[stretch + 1] - heights[stretch]
    return slope


def worth(point):
    return Fraction(*point)


class PointOf(unittest.TestCase):

    def check(self, heights, row):
        told = point_of(Road(heights), row)
        if slopes_along(heights, row) == 1:
            self.assertIsNone(told, (heights, row))
            for part in range(7):
                self.assertTrue(goes_along(heights, row, row[0] + Fraction(part, 6)))
            return
        self.assertIs(type(told), tuple)
        self.assertEqual(told, as_point(worth(told)))
        self.assertTrue(goes_along(heights, row, worth(told)), (heights, row, told))

    def test_written_out(self):
        self.assertEqual(point_of(Road([1, 2, 0]), (1,)), (4, 3))
        self.assertEqual(point_of(Road([1, 2, 0]), (0, 1)), (2, 3))
        self.assertEqual(point_of(Road([1, 2, 0]), (1, 0)), (5, 3))
        self.assertEqual(point_of(Road([1, 2, 0]), (0, 1, 1)), (0, 1))
        self.assertEqual(point_of(Road(TENT), (0,)), (0, 1))
        self.assertEqual(point_of(Road(TENT), (0, 1)), (4, 5))
        self.assertEqual(point_of(Road([1, 0]), (0,)), (1, 2))
        self.assertEqual(point_of(Road([0, 1]), (0,)), None)
        self.assertEqual(point_of(Road(ZIGZAG), (23,)), (576, 25))
        self.assertEqual(point_of(Road(ZIGZAG), (22,)), (528, 23))

    def test_every_closed_row_of_few_stretches(self):
        for heights in small_roads():
            width = len(heights) - 1
            for many in range(1, 5):
                for row in product(range(width), repeat=many):
                    if is_row(heights, row + row[:1]):
                        self.check(heights, row)

    def test_closed_rows_of_many_stretches(self):
        for heights in list(small_roads((1, 2))) + WIDER:
            for many in (5, 7, 12):
                if not too_long(heights, many):
                    for row in rows(Road(heights), many):
                        self.check(heights, row)

    def test_long_rows_on_a_steep_road(self):
        for row in ((0,) * 12, (23,) * 12, tuple(range(12)), tuple(range(23, 11, -1)), (0, 23) * 6, (5, 17, 2) * 4,
                    (22, 0, 0, 0, 0, 0, 0, 0, 0, 0, 0, 23)):
            self.check(ZIGZAG, row)

    def test_slopes_that_come_to_one(self):
        for width in (1, 2, 24):
            rising = Road(list(range(width + 1)))
            falling = Road(list(range(width, -1, -1)))
            for k in range(width):
                for many in (1, 2, 11, 12):
                    self.assertIsNone(point_of(rising, (k,) * many))
                for many in (1, 2, 6):
                    if k != width - 1 - k:
                        self.assertIsNone(point_of(falling, (k, width - 1 - k) * many))
        turned = Road([2, 1, 0, 3])
        self.assertIsNone(point_of(turned, (0, 1)))
        self.assertIsNone(point_of(turned, (1, 0) * 6))

    def test_rows_gone_through_twice(self):
        for heights in list(small_roads((2,))) + [FIVE, MIXED, ZIGZAG]:
            for many in (1, 2):
                for row in rows(Road(heights), many) if not too_long(heights, many) else ():
                    self.check(heights, row + row)
                    self.check(heights, row * 3)
                    if slopes_along(heights, row) not in (1, -1):
                        self.assertEqual(point_of(Road(heights), row + row), point_of(Road(heights), row))
        self.assertEqual(point_of(Road([1, 0]), (0,)), (1, 2))
        self.assertIsNone(point_of(Road([1, 0]), (0, 0)))
        self.assertEqual(point_of(Road([1, 0]), (0, 0, 0)), (1, 2))

    def refuse(self, heights, row):
        with self.subTest(heights=heights, row=row):
            with self.assertRaises(BadRow):
                point_of(Road(heights), row)

    def test_no_stretch_and_too_many(self):
        for heights in ([0, 1], TENT, MIXED, ZIGZAG):
            self.refuse(heights, ())
        for many in (13, 14, 26, 1000):
            self.refuse([0, 1], (0,) * many)
            self.refuse(TENT, (1,) * many)
            self.refuse(ZIGZAG, (0,) * many)
        self.assertEqual(point_of(Road(TENT), (1,) * 12), (4, 3))

    def test_no_such_stretch_at_any_place(self):
        for heights in ([0, 1], [1, 0], TENT, ZIGZAG):
            width = len(heights) - 1
            for many in (1, 2, 5, 12):
                for place in range(many):
                    for wrong in (-1, -width, width, width + 1, GREAT, -GREAT):
                        row = [0] * many
                        row[place] = wrong
                        self.refuse(heights, tuple(row))

    def test_rows_that_are_not_closed(self):
        for heights in small_roads((1, 2, 3)):
            width = len(heights) - 1
            for many in (1, 2, 3):
                for row in product(range(width), repeat=many):
                    if not is_row(heights, row + row[:1]):
                        with self.assertRaises(BadRow):
                            point_of(Road(heights), row)
        self.refuse([1, 2, 0], (0,))
        self.refuse([1, 2, 0], (1, 0, 0))
        self.refuse([0, 2, 2], (0, 1))
        self.refuse(RISING, (3, 3, 3, 4))


class Back(unittest.TestCase):

    def check(self, heights, many):
        road = Road(heights)
        if too_long(heights, many):
            with self.assertRaises(TooLong):
                back(road, many)
            return
        points, wholes = back_on_line(heights, many)
        told = back(road, many)
        self.assertEqual([type(told), type(told[0]), type(told[1])], [tuple, list, list])
        self.assertEqual(told, ([as_point(x) for x in points], wholes), (heights, many))

    def test_written_out(self):
        self.assertEqual(back(Road(TENT), 1), ([(0, 1), (4, 3)], []))
        self.assertEqual(back(Road(TENT), 2), ([(0, 1), (4, 5), (4, 3), (8, 5)], []))
        self.assertEqual(back(Road([1, 2, 0]), 3), ([(0, 1), (1, 1), (4, 3), (2, 1)], []))
        self.assertEqual(back(Road([1, 0]), 1), ([(1, 2)], []))
        self.assertEqual(back(Road([1, 0]), 2), ([], [0]))
        self.assertEqual(back(Road([1, 0, 2, 3]), 1), ([(1, 2)], [2]))
        self.assertEqual(back(Road([1, 0, 2, 3]), 2), ([], [0, 2]))

    def test_every_small_road(self):
        for heights in small_roads():
            for many in range(1, 5):
                self.check(heights, many)

    def test_one_to_twelve_steps(self):
        for heights in list(small_roads((1, 2))) + [[1, 2, 3, 0], [3, 2, 0, 1], [0, 1, 3, 2], [2, 3, 1, 0]] + WIDER:
            for many in range(1, 13):
                self.check(heights, many)

    def test_against_all_fractions_with_small_bottoms(self):
        for heights in list(small_roads((1, 2))) + [[1, 2, 3, 0], [0, 3, 0, 3], [3, 2, 0, 1], [2, 3, 1, 0], FIVE, MIXED]:
            places = fractions(len(heights) - 1, range(1, 18))
            for many in (1, 2, 3, 4):
                if too_long(heights, many):
                    continue
                points, wholes = back(Road(heights), many)
                stay = [x for x in places if steps_from(heights, x, many) == x]
                single = [as_point(x) for x in stay if not any(k <= x <= k + 1 for k in wholes)]
                self.assertEqual([point for point in points if point[1] < 18], single, (heights, many))
                for k in wholes:
                    self.assertTrue({x for x in places if k <= x <= k + 1} <= set(stay))

    def test_corners_to_which_no_closed_row_leads(self):
        self.assertEqual(back(Road([0, 0]), 1), ([(0, 1)], []))
        self.assertEqual(back(Road([1, 1, 1]), 1), ([(1, 1)], []))
        self.assertEqual(back(Road([1, 1, 1]), 12), ([(1, 1)], []))
        self.assertEqual(back(Road([12] * 25), 7), ([(12, 1)], []))
        heights = [3, 3, 3, 0, 0]
        self.assertEqual(rows(Road(heights), 2), [(2, 2)])
        self.assertEqual(back(Road(heights), 2), ([(0, 1), (9, 4), (3, 1)], []))
        self.assertEqual(back(Road(heights), 3), ([(9, 4)], []))

    def test_whole_stretches_and_their_ends(self):
        self.assertEqual(back(Road(RISING), 5), ([], list(range(24))))
        self.assertEqual(back(Road(FALLING), 3), ([(12, 1)], []))
        self.assertEqual(back(Road(FALLING), 4), ([], list(range(24))))
        self.assertEqual(back(Road([3, 2, 1, 0]), 1), ([(3, 2)], []))
        self.assertEqual(back(Road([0, 1, 1, 2, 4]), 1), ([(4, 1)], [0]))
        self.assertEqual(back(Road([0, 2, 2, 3]), 1), ([(0, 1)], [2]))
        self.assertEqual(back(Road([0, 1, 0, 3]), 1), ([(3, 1)], [0]))

    def test_points_rise_by_worth(self):
        for heights in (TENT, FIVE, DOUBLED, [0, 3, 0, 3], [0, 5, 0, 5, 0, 5]):
            for many in range(1, 7):
                if not too_long(heights, many):
                    points, wholes = back(Road(heights), many)
                    values = [worth(point) for point in points]
                    self.assertEqual(values, sorted(set(values)))
                    self.assertEqual(points, [as_point(x) for x in values])

    def test_refused_numbers(self):
        for heights in ([0, 1], MIXED, ZIGZAG):
            for many in REFUSED:
                with self.subTest(many=many):
                    with self.assertRaises(BadCount):
                        back(Road(heights), many)

    def test_too_long(self):
        for heights, many in ((ZIGZAG, 2), (ZIGZAG, 12), (TENT, 9), (LAYERS, 3)):
            with self.assertRaises(TooLong):
                back(Road(heights), many)
        self.assertEqual(len(back(Road(TENT), 8)[0]), 256)
        self.assertEqual(back(Road(LAYERS), 4), ([], [23]))
        self.assertEqual(back(Road(LAYERS), 5), ([(47, 2)], []))

    def test_told_lists_are_new_ones(self):
        road = Road([1, 0, 2, 3])
        told = back(road, 1)
        told[0].clear()
        told[1].append(7)
        self.assertEqual(back(road, 1), ([(1, 2)], [2]))
        self.assertEqual(road.corners(), [1, 0, 2, 3])


def refused_up_to(heights, most):
    return any(too_long(heights, many) for many in range(1, most + 1))


class Lengths(unittest.TestCase):

    def check(self, heights, most):
        if refused_up_to(heights, most):
            with self.assertRaises(TooLong):
                lengths(Road(heights), most)
            return
        told = lengths(Road(heights), most)
        self.assertIs(type(told), list)
        self.assertEqual(told, lengths_on_line(heights, most), (heights, most))

    def test_written_out(self):
        self.assertEqual(lengths(Road([1, 2, 0]), 8), [1, 2, 3, 4, 5, 6, 7, 8])
        self.assertEqual(lengths(Road([0, 1]), 12), [1])
        self.assertEqual(lengths(Road([1, 0]), 12), [1, 2])
        self.assertEqual(lengths(Road([1, 0]), 1), [1])
        self.assertEqual(lengths(Road(FIVE), 7), [1, 2, 4, 5, 6, 7])
        self.assertEqual(lengths(Road([7] * 25), 12), [1])
        self.assertEqual(lengths(Road([3, 2, 0, 1]), 12), [1, 2, 4])
        self.assertEqual(lengths(Road(DOUBLED), 12), [1, 2, 4, 6, 8, 10, 12])
        self.assertEqual(lengths(Road(DOUBLED_TWICE), 12), [1, 2, 4, 8, 12])

    def test_every_small_road(self):
        for heights in small_roads():
            for most in (1, 2, 4):
                self.check(heights, most)

    def test_each_most(self):
        for heights in list(small_roads((1, 2))) + [[3, 2, 0, 1], [0, 1, 3, 2]] + WIDER:
            for most in (1, 2, 3, 5, 8, 11, 12):
                self.check(heights, most)
        for most in range(1, 13):
            self.check(DOUBLED, most)
            self.check([3, 2, 0, 1], most)

    def test_against_the_least_numbers_of_what_is_back(self):
        for heights in list(small_roads((2,))) + WIDER:
            road = Road(heights)
            most = max([0] + [many for many in range(1, 13) if not refused_up_to(heights, many)])
            if most == 0:
                continue
            found = set()
            for many in range(1, most + 1):
                points, wholes = back(road, many)
                places = [worth(point) for point in points]
                for k in wholes:
                    places += [k, k + Fraction(1, 5), k + Fraction(1, 2), k + 1]
                found |= {back_first(heights, Fraction(x), many) for x in places}
            self.assertEqual(lengths(road, most), sorted(found))

    def test_each_length_behind_one_is_a_length(self):
        for heights in list(small_roads()) + WIDER:
            for most in (7, 12):
                if not refused_up_to(heights, most):
                    told = lengths(Road(heights), most)
                    self.assertIn(1, told)
                    for length in told:
                        self.assertLessEqual(set(following(length, most)), set(told))

    def test_too_long_for_some_number_up_to_the_most(self):
        self.assertEqual(rows(Road(LAYERS), 12), [(23,) * 12])
        self.assertEqual(lengths(Road(LAYERS), 2), [1, 2])
        for most in range(3, 13):
            with self.assertRaises(TooLong):
                lengths(Road(LAYERS), most)
        self.assertEqual(lengths(Road(ZIGZAG), 1), [1])
        with self.assertRaises(TooLong):
            lengths(Road(ZIGZAG), 2)

    def test_refused_numbers(self):
        for heights in ([0, 1], MIXED, LAYERS, ZIGZAG):
            for most in REFUSED:
                with self.subTest(most=most):
                    with self.assertRaises(BadCount):
                        lengths(Road(heights), most)

    def test_a_told_list_is_a_new_one(self):
        road = Road([1, 0])
        lengths(road, 4).clear()
        self.assertEqual(lengths(road, 4), [1, 2])


class Ring(unittest.TestCase):

    def wanted(self, heights, length):
        points, wholes = back_on_line(heights, length)
        places = points + [k + Fraction(1, 3) for k in wholes]
        places = [x for x in places if back_first(heights, x, length) == length]
        if not places:
            return None
        return [as_point(steps_from(heights, min(places), k)) for k in range(length)]

    def check(self, heights, length):
        if too_long(heights, length):
            with self.assertRaises(TooLong):
                ring(Road(heights), length)
            return
        told = ring(Road(heights), length)
        self.assertEqual(told, self.wanted(heights, length), (heights, length))
        if told is not None:
            self.assertIs(type(told), list)
            self.assertEqual(len(set(told)), length)
            self.assertEqual(Road(heights).at(told[-1]), told[0])

    def test_written_out(self):
        self.assertEqual(ring(Road(TENT), 1), [(0, 1)])
        self.assertEqual(ring(Road(TENT), 2), [(4, 5), (8, 5)])
        self.assertEqual(ring(Road(TENT), 3), [(4, 9), (8, 9), (16, 9)])
        self.assertEqual(ring(Road([1, 2, 0]), 3), [(0, 1), (1, 1), (2, 1)])
        self.assertIsNone(ring(Road(FIVE), 3))
        self.assertEqual(ring(Road(FIVE), 5), [(0, 1), (2, 1), (3, 1), (1, 1), (4, 1)])

    def test_each_length(self):
        for heights in list(small_roads((1, 2))) + [[3, 2, 0, 1], [0, 1, 3, 2]] + WIDER:
            for length in range(1, 13):
                self.check(heights, length)

    def test_every_small_road(self):
        for heights in small_roads():
            for length in (1, 2, 3, 4):
                self.check(heights, length)

    def test_lengths_and_rings_agree(self):
        for heights in list(small_roads()) + WIDER:
            if not refused_up_to(heights, 6):
                told = [length for length in range(1, 7) if ring(Road(heights), length) is not None]
                self.assertEqual(told, lengths(Road(heights), 6))

    def test_the_third_of_a_whole_stretch(self):
        self.assertEqual(ring(Road(RISING), 1), [(1, 3)])
        self.assertIsNone(ring(Road(RISING), 2))
        self.assertEqual(ring(Road(FALLING), 2), [(1, 3), (71, 3)])
        self.assertEqual(ring(Road(FALLING), 1), [(12, 1)])
        self.assertEqual(ring(Road([1, 0]), 2), [(1, 3), (2, 3)])
        self.assertIsNone(ring(Road([1, 0]), 4))
        self.assertEqual(ring(Road([2, 1, 1, 2, 4]), 2), None)

    def test_the_least_candidate(self):
        self.assertEqual(ring(Road([1, 0, 2, 3]), 1), [(1, 2)])
        self.assertEqual(ring(Road([0, 1, 0, 3]), 1), [(1, 3)])
        self.assertEqual(ring(Road([0, 2, 2, 3]), 1), [(0, 1)])
        self.assertEqual(ring(Road([1, 0, 2, 3]), 2), [(1, 3), (2, 3)])

    def test_too_long_by_the_length_alone(self):
        self.assertEqual(ring(Road(LAYERS), 5), None)
        self.assertEqual(ring(Road(LAYERS), 1), [(47, 2)])
        for heights, length in ((LAYERS, 3), (ZIGZAG, 2), (TENT, 9), (TENT, 12)):
            with self.assertRaises(TooLong):
                ring(Road(heights), length)

    def test_refused_numbers(self):
        for heights in ([0, 1], MIXED, ZIGZAG):
            for length in REFUSED:
                with self.subTest(length=length):
                    with self.assertRaises(BadCount):
                        ring(Road(heights), length)

    def test_a_told_list_is_a_new_one(self):
        road = Road([1, 2, 0])
        ring(road, 3).clear()
        self.assertEqual(ring(road, 3), [(0, 1), (1, 1), (2, 1)])
        self.assertEqual(road.corners(), [1, 2, 0])


if __name__ == "__main__":
    unittest.main()
