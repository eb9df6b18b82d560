"""Laid out: the corners of a road taken so many times, and its laps."""

import unittest
from fractions import Fraction

from helper import (FALLING, GREAT, MIXED, RISING, TENT, ZIGZAG, as_point, bent_line, great_roads, line_on,
                    small_roads, steps_from)

from crookroad.errors import BadCount, TooLong
from crookroad.laid import laid, laps
from crookroad.road import Road

LEVEL = [7] * 25
REFUSED = (0, -1, -12, -GREAT, 13, 14, GREAT)
# Taken so many times, each has just so many corners.
THOUSAND = (
    (3, [8, 2, 12, 0, 12, 2, 14, 10, 2, 0, 12, 0, 0, 8, 0]),
    (6, [2, 1, 5, 0, 1, 3]),
    (8, [2, 1, 3, 0, 0, 1, 4]),
    (12, [1, 0, 2, 5, 3, 4, 4]),
)
ONE_MORE = (
    (3, [1, 0, 0, 14, 14, 0, 7, 0, 0, 13, 1, 16, 3, 8, 10, 0, 15]),
    (5, [2, 1, 6, 2, 6, 0, 1]),
    (6, [0, 3, 1, 5, 0, 0, 0]),
    (8, [2, 1, 3, 0, 0, 0, 0, 3]),
)


def line_of(heights, many):
    """The corners as the document tells them, by fractions; None where they are too many."""
    knots = bent_line(heights, 1)
    for taken in range(1, many):
        knots = line_on(heights, knots)
        if len(knots) > 1000:
            return None
    return [(as_point(x), int(y)) for x, y in knots]


def laps_of(line):
    """The laps, by going along the line and asking at each corner whether its way changes."""
    found = 0
    before = None
    for (left, low), (right, high) in zip(line, line[1:]):
        now = (high > low, high < low)
        found += now != before
        before = now
    return found


class Laid(unittest.TestCase):

    def check(self, heights, many):
        wanted = line_of(heights, many)
        if wanted is None:
            for asked in (laid, laps):
                with self.assertRaises(TooLong):
                    asked(Road(heights), many)
            return
        told = laid(Road(heights), many)
        self.assertIs(type(told), list)
        self.assertEqual(told, wanted, (heights, many))
        self.assertEqual({type(corner) for corner in told}, {tuple})
        self.assertEqual(laps(Road(heights), many), laps_of(wanted), (heights, many))

    def test_written_out(self):
        self.assertEqual(laid(Road([1, 2, 0]), 1), [((0, 1), 1), ((1, 1), 2), ((2, 1), 0)])
        self.assertEqual(laid(Road([1, 2, 0]), 2), [((0, 1), 2), ((1, 1), 0), ((3, 2), 2), ((2, 1), 1)])
        self.assertEqual(laid(Road([1, 2, 0]), 3),
                         [((0, 1), 0), ((1, 2), 2), ((1, 1), 1), ((5, 4), 2), ((3, 2), 0), ((2, 1), 2)])
        self.assertEqual(laid(Road(TENT), 2), [((0, 1), 0), ((1, 2), 2), ((1, 1), 0), ((3, 2), 2), ((2, 1), 0)])
        self.assertEqual(laid(Road([0, 3, 0, 3]), 2),
                         [((0, 1), 0), ((1, 3), 3), ((2, 3), 0), ((1, 1), 3), ((4, 3), 0), ((5, 3), 3), ((2, 1), 0),
                          ((7, 3), 3), ((8, 3), 0), ((3, 1), 3)])
        self.assertEqual(laid(Road([0, 0]), 12), [((0, 1), 0), ((1, 1), 0)])
        self.assertEqual(laid(Road([1, 0]), 2), [((0, 1), 0), ((1, 1), 1)])
        self.assertEqual(laid(Road([1, 0]), 11), [((0, 1), 1), ((1, 1), 0)])
        self.assertEqual(laid(Road([3, 1, 2, 0]), 2),
                         [((0, 1), 0), ((1, 2), 2), ((1, 1), 1), ((2, 1), 2), ((5, 2), 1), ((3, 1), 3)])

    def test_taken_once(self):
        for heights in list(small_roads()) + list(great_roads()):
            wanted = [((k, 1), height) for k, height in enumerate(heights)]
            self.assertEqual(laid(Road(heights), 1), wanted)

    def test_corners_where_the_line_does_not_bend(self):
        self.assertEqual(laid(Road(RISING), 12), [((k, 1), k) for k in range(25)])
        self.assertEqual(laid(Road(FALLING), 11), [((k, 1), 24 - k) for k in range(25)])
        self.assertEqual(laid(Road(LEVEL), 12), [((k, 1), 7) for k in range(25)])
        self.assertEqual(laid(Road([0, 2, 2]), 2), [((0, 1), 0), ((1, 2), 2), ((1, 1), 2), ((2, 1), 2)])
        self.assertEqual(laid(Road([2, 0, 0]), 2), [((0, 1), 0), ((1, 2), 0), ((1, 1), 2), ((2, 1), 2)])

    def test_the_widest_zigzag(self):
        line = laid(Road(ZIGZAG), 2)
        self.assertEqual(len(line), 24 * 24 + 1)
        self.assertEqual([point for point, height in line], [as_point(Fraction(k, 24)) for k in range(577)])
        self.assertEqual([height for point, height in line], [24 * (k % 2) for k in range(577)])
        self.assertEqual(laps(Road(ZIGZAG), 2), 576)

    def test_every_small_road(self):
        for heights in small_roads():
            for many in (1, 2, 3, 4):
                self.check(heights, many)

    def test_one_to_twelve_times(self):
        for heights in list(small_roads((1, 2))) + list(great_roads()) + [[2, 4, 3, 1, 0], [4, 5, 3, 0, 1, 2]]:
            for many in range(1, 13):
                self.check(heights, many)

    def test_heights_are_where_so_many_steps_lead(self):
        for heights in (TENT, MIXED, [1, 2, 0], [0, 3, 0, 3], [2, 4, 3, 1, 0]):
            for many in (1, 2, 3, 4):
                line = laid(Road(heights), many)
                for point, height in line:
                    self.assertEqual(steps_from(heights, Fraction(*point), many), height)
                for (left, low), (right, high) in zip(line, line[1:]):
                    middle = (Fraction(*left) + Fraction(*right)) / 2
                    self.assertEqual(steps_from(heights, middle, many), Fraction(low + high, 2))

    def test_refused_numbers(self):
        for heights in ([0, 1], TENT, MIXED, ZIGZAG):
            for many in REFUSED:
                for asked in (laid, laps):
                    with self.subTest(heights=heights, many=many):
                        with self.assertRaises(BadCount):
                            asked(Road(heights), many)

    def test_a_thousand_corners_and_one_more(self):
        for many, heights in THOUSAND:
            self.assertEqual(len(laid(Road(heights), many)), 1000)
            self.check(heights, many)
        for many, heights in ONE_MORE:
            self.assertEqual(len(bent_line(heights, many)), 1001)
            self.assertLess(len(laid(Road(heights), many - 1)), 1000)
            for asked in (laid, laps):
                with self.assertRaises(TooLong):
                    asked(Road(heights), many)
        self.assertEqual(len(laid(Road(TENT), 9)), 513)
        for many in (10, 11, 12):
            with self.assertRaises(TooLong):
                laid(Road(TENT), many)

    def test_a_told_list_is_a_new_one(self):
        heights = [1, 2, 0]
        road = Road(heights)
        for many in (1, 2):
            first = laid(road, many)
            laid(road, many).clear()
            heights[0] = 0
            self.assertEqual(laid(road, many), first)
        self.assertEqual(road.corners(), [1, 2, 0])


class Laps(unittest.TestCase):

    def test_written_out(self):
        self.assertEqual([laps(Road([0, 0]), many) for many in (1, 2, 12)], [1, 1, 1])
        self.assertEqual([laps(Road([0, 1]), many) for many in (1, 2, 12)], [1, 1, 1])
        self.assertEqual([laps(Road([1, 0]), many) for many in (1, 2, 12)], [1, 1, 1])
        self.assertEqual([laps(Road(TENT), many) for many in range(1, 9)], [2, 4, 8, 16, 32, 64, 128, 256])
        self.assertEqual([laps(Road([1, 2, 0]), many) for many in range(1, 8)], [2, 3, 5, 8, 13, 21, 34])
        self.assertEqual([laps(Road(RISING), many) for many in (1, 2, 12)], [1, 1, 1])
        self.assertEqual([laps(Road(FALLING), many) for many in (1, 2, 12)], [1, 1, 1])
        self.assertEqual([laps(Road(LEVEL), many) for many in (1, 2, 12)], [1, 1, 1])
        self.assertEqual([laps(Road(ZIGZAG), many) for many in (1, 2)], [24, 576])

    def test_level_laps(self):
        self.assertEqual(laps(Road([0, 1, 1]), 1), 2)
        self.assertEqual(laps(Road([0, 1, 1, 1, 0]), 1), 3)
        self.assertEqual(laps(Road([0, 1, 1, 2]), 1), 3)
        self.assertEqual(laps(Road([1, 1, 0, 0, 2]), 1), 4)
        self.assertEqual(laps(Road(MIXED), 1), 4)
        self.assertEqual(laps(Road([0, 2, 2]), 2), 2)
        self.assertEqual(laps(Road([1, 1, 0]), 2), 1)

    def test_a_bend_is_no_new_lap(self):
        self.assertEqual(laps(Road([0, 1, 3, 3]), 1), 2)
        self.assertEqual(laps(Road([3, 2, 0, 3]), 1), 2)
        self.assertEqual(laps(Road([0, 1, 3, 4, 4]), 1), 2)

    def test_taken_a_and_b_times_together(self):
        tried = 0
        for heights in list(small_roads()) + [MIXED, [2, 4, 3, 1, 0], [4, 5, 3, 0, 1, 2]]:
            many = [None]
            for taken in range(1, 7):
                try:
                    many.append(laps(Road(heights), taken))
                except TooLong:
                    break
            for a in range(1, len(many)):
                for b in range(1, len(many) - a):
                    self.assertLessEqual(many[a + b], many[a] * many[b], heights)
                    tried += 1
        self.assertGreater(tried, 3000)


if __name__ == "__main__":
    unittest.main()
