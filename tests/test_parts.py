"""Points: lowest terms, comparing, ordering."""

import unittest
from fractions import Fraction
from math import gcd

from crookroad.errors import BadBottom
from crookroad.parts import less, lowest, ordered

# Two numbers of seventy figures, and two without a common divisor.
GREAT = 10 ** 70 - 1
GREAT_EVEN = 10 ** 70 - 2
PRIME = 2 ** 127 - 1
OTHER_PRIME = 2 ** 107 - 1


def worth(point):
    return Fraction(point[0], point[1])


class Lowest(unittest.TestCase):

    def check(self, top, bottom):
        told = lowest(top, bottom)
        self.assertIs(type(told), tuple)
        self.assertEqual(len(told), 2)
        for number in told:
            self.assertIs(type(number), int)
        self.assertEqual(told, (Fraction(top, bottom).numerator, Fraction(top, bottom).denominator))

    def test_written_out(self):
        self.assertEqual(lowest(6, 4), (3, 2))
        self.assertEqual(lowest(-6, 4), (-3, 2))
        self.assertEqual(lowest(3, 2), (3, 2))
        self.assertEqual(lowest(4, 6), (2, 3))
        self.assertEqual(lowest(8, 4), (2, 1))
        self.assertEqual(lowest(-8, 4), (-2, 1))
        self.assertEqual(lowest(-1, 7), (-1, 7))

    def test_small_numbers_all(self):
        for top in range(-40, 41):
            for bottom in range(1, 41):
                with self.subTest(top=top, bottom=bottom):
                    self.check(top, bottom)

    def test_nought(self):
        for bottom in (1, 2, 7, 40, GREAT, GREAT_EVEN):
            self.assertEqual(lowest(0, bottom), (0, 1))

    def test_bottom_of_one(self):
        for top in (-GREAT, -5, -1, 0, 1, 5, GREAT):
            self.assertEqual(lowest(top, 1), (top, 1))

    def test_seventy_figures(self):
        great = (GREAT, GREAT_EVEN, PRIME, OTHER_PRIME, 6 * PRIME, 10 ** 69, 3 ** 146, 2 ** 232)
        for bottom in great:
            for top in great + (1, 6, 30):
                with self.subTest(top=top, bottom=bottom):
                    self.check(top, bottom)
                    self.check(-top, bottom)
        self.assertEqual(lowest(GREAT, GREAT), (1, 1))
        self.assertEqual(lowest(-GREAT, GREAT), (-1, 1))
        self.assertEqual(lowest(GREAT, 9), (GREAT // 9, 1))
        self.assertEqual(lowest(PRIME * 10, OTHER_PRIME * 15), (PRIME * 2, OTHER_PRIME * 3))

    def test_no_number_above_one_divides_both(self):
        for top in (GREAT_EVEN, 10 ** 69, 360360):
            for bottom in (720720, 10 ** 60, GREAT):
                told = lowest(top, bottom)
                self.assertEqual(gcd(told[0], told[1]), 1)
                self.assertEqual(told[0] * bottom, top * told[1])

    def test_bad_bottom(self):
        for bottom in (0, -1, -2, -7, -GREAT):
            for top in (-GREAT, -3, 0, 3, GREAT):
                with self.subTest(top=top, bottom=bottom):
                    with self.assertRaises(BadBottom):
                        lowest(top, bottom)


class Less(unittest.TestCase):

    def test_written_out(self):
        self.assertIs(less((1, 3), (1, 2)), True)
        self.assertIs(less((1, 2), (1, 3)), False)
        self.assertIs(less((-1, 2), (-1, 3)), True)
        self.assertIs(less((-1, 3), (-1, 2)), False)
        self.assertIs(less((-1, 2), (0, 5)), True)
        self.assertIs(less((0, 5), (-1, 2)), False)

    def test_small_points_both_ways_round(self):
        points = [(top, bottom) for top in range(-7, 8) for bottom in range(1, 8)]
        for one in points:
            for other in points:
                self.assertIs(less(one, other), worth(one) < worth(other), (one, other))

    def test_same_worth_written_unlike(self):
        pairs = [((1, 2), (2, 4)), ((-3, 1), (-9, 3)), ((0, 1), (0, 9)), ((5, 5), (1, 1)),
                 ((GREAT, GREAT), (1, 1)), ((PRIME, 3), (PRIME * 4, 12))]
        for one, other in pairs:
            self.assertIs(less(one, other), False)
            self.assertIs(less(other, one), False)

    def test_great_numbers(self):
        near = [(GREAT - 2, GREAT - 1), (GREAT - 1, GREAT), (GREAT, GREAT), (GREAT, GREAT - 1),
                (-GREAT, GREAT - 1), (-GREAT, GREAT), (1 - GREAT, GREAT), (1, GREAT), (1, GREAT - 1)]
        for one in near:
            for other in near:
                self.assertIs(less(one, other), worth(one) < worth(other), (one, other))

    def test_bad_bottom_at_either_place(self):
        for bottom in (0, -1, -4, -GREAT):
            for top in (-2, 0, 2):
                with self.subTest(top=top, bottom=bottom):
                    with self.assertRaises(BadBottom):
                        less((top, bottom), (1, 2))
                    with self.assertRaises(BadBottom):
                        less((1, 2), (top, bottom))
                    with self.assertRaises(BadBottom):
                        less((top, bottom), (top, bottom))


class Ordered(unittest.TestCase):

    def check(self, points):
        before = list(points)
        told = ordered(points)
        self.assertIs(type(told), list)
        self.assertIsNot(told, points)
        self.assertEqual(points, before)
        # Python's own sort keeps what is worth the same in its order, too.
        wanted = sorted(before, key=worth)
        self.assertEqual(told, wanted)
        self.assertEqual([id(point) for point in told], [id(point) for point in wanted])

    def test_no_point_and_one_point(self):
        empty = []
        self.assertEqual(ordered(empty), [])
        self.assertIsNot(ordered(empty), empty)
        self.assertEqual(ordered([(4, 6)]), [(4, 6)])
        self.check([(-4, 6)])

    def test_written_out(self):
        self.assertEqual(ordered([(1, 2), (1, 3), (-5, 1), (0, 4)]), [(-5, 1), (0, 4), (1, 3), (1, 2)])

    def test_same_worth_stays_in_its_order(self):
        self.assertEqual(ordered([(3, 6), (1, 2), (2, 4)]), [(3, 6), (1, 2), (2, 4)])
        self.assertEqual(ordered([(1, 1), (2, 4), (1, 2), (3, 6), (1, 3)]),
                         [(1, 3), (2, 4), (1, 2), (3, 6), (1, 1)])
        self.check([(k * top, k * 3) for k in (5, 1, 4, 2, 3) for top in (2, -1, 0, -2, 1)])
        self.check([(0, bottom) for bottom in (9, 1, GREAT, 4)])

    def test_the_same_tuple_twice(self):
        point = (2, 4)
        self.check([point, (1, 2), (0, 1), point, (9, 3), point])
        self.assertEqual(ordered([(1, 2), (0, 1), (1, 2)]), [(0, 1), (1, 2), (1, 2)])

    def test_many_points(self):
        self.check([(k * 389 % 1013 - 500, k * 7 % 41 + 1) for k in range(1000)])
        self.check([(top, bottom) for bottom in range(12, 0, -1) for top in range(12, -13, -1)])

    def test_great_numbers(self):
        near = [(GREAT - k, GREAT - j) for k in range(4) for j in range(4)]
        self.check(near)
        self.check(near[::-1] + [(-top, bottom) for top, bottom in near] + [(1, 1), (0, 7), (-1, 1)])
        self.check([(1, GREAT), (1, GREAT - 1), (GREAT, 1), (-GREAT, 1), (1, 1), (2, 2 * 10 ** 69)])

    def test_changing_the_told_list_changes_nothing(self):
        points = [(1, 2), (1, 3)]
        told = ordered(points)
        told.append((9, 9))
        told[0] = (7, 7)
        self.assertEqual(points, [(1, 2), (1, 3)])
        self.assertEqual(ordered(points), [(1, 3), (1, 2)])

    def test_changing_the_list_handed_in_leaves_what_was_told(self):
        points = [(1, 2), (1, 3)]
        told = ordered(points)
        points.clear()
        self.assertEqual(told, [(1, 3), (1, 2)])

    def test_bad_bottom_at_any_place(self):
        for bottom in (0, -1, -5, -GREAT):
            for place in range(4):
                points = [(3, 2), (1, 2), (2, 2)]
                points.insert(place, (1, bottom))
                before = list(points)
                with self.subTest(bottom=bottom, place=place):
                    with self.assertRaises(BadBottom):
                        ordered(points)
                    self.assertEqual(points, before)
            with self.assertRaises(BadBottom):
                ordered([(0, bottom)])


if __name__ == "__main__":
    unittest.main()
