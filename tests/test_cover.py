"""Covering: which stretch covers which, the ways, and the closed rows."""

import unittest
from itertools import product

from helper import (FALLING, GREAT, LAYERS, MIXED, RISING, ZIGZAG, after_table, covering, great_roads, is_row,
                    small_roads, table_by_rows, table_of, too_long, total)

from crookroad.cover import covered, rows, ways
from crookroad.errors import BadCount, BadRow, TooLong
from crookroad.road import Road

TEN = [0, 10] * 5 + [0]
THOUSAND = [10, 11, 5, 5, 10, 6, 10, 8, 10, 0, 8, 5]
ONE_MORE = [0, 9, 1, 4, 0, 8, 6, 1, 1, 5]


class Covered(unittest.TestCase):

    def test_written_out(self):
        road = Road(MIXED)
        self.assertEqual([covered(road, k) for k in range(5)], [[3, 4], [], [0, 1, 2, 3, 4], [0], [1, 2, 3]])

    def test_rising_falling_level_zigzag(self):
        for width in (1, 2, 5, 23, 24):
            rising = list(range(width + 1))
            zigzag = [k % 2 * width for k in range(width + 1)]
            for k in range(width):
                self.assertEqual(covered(Road(rising), k), [k])
                self.assertEqual(covered(Road(rising[::-1]), k), [width - 1 - k])
                self.assertEqual(covered(Road(zigzag), k), list(range(width)))
                for level in (0, 1, width):
                    self.assertEqual(covered(Road([level] * (width + 1)), k), [])

    def test_by_the_words(self):
        for heights in list(small_roads()) + list(great_roads()) + [LAYERS]:
            road = Road(heights)
            for k in range(road.width()):
                told = covered(road, k)
                self.assertIs(type(told), list)
                self.assertEqual(told, [j for j in range(road.width()) if covering(heights, k, j)])

    def test_no_such_stretch(self):
        for heights in ([0, 1], [1, 0], [1, 1, 1], MIXED, RISING, FALLING, ZIGZAG):
            width = len(heights) - 1
            for stretch in (-1, -2, -width, -GREAT, width, width + 1, GREAT):
                with self.subTest(width=width, stretch=stretch):
                    with self.assertRaises(BadRow):
                        covered(Road(heights), stretch)

    def test_a_told_list_is_a_new_one(self):
        road = Road(MIXED)
        covered(road, 2).clear()
        covered(road, 2)[0] = 9
        self.assertEqual(covered(road, 2), [0, 1, 2, 3, 4])
        self.assertEqual(road.corners(), MIXED)


class Ways(unittest.TestCase):

    def test_no_step_and_one_step(self):
        for heights in list(small_roads()) + list(great_roads()):
            road = Road(heights)
            places = range(road.width())
            self.assertEqual(ways(road, 0), [[int(i == j) for j in places] for i in places])
            self.assertEqual(ways(road, 1), [[int(covering(heights, i, j)) for j in places] for i in places])

    def test_few_steps_against_rows_one_by_one(self):
        for heights in small_roads():
            for many in range(5):
                self.assertEqual(ways(Road(heights), many), table_by_rows(heights, many), (heights, many))
        for many in range(5):
            self.assertEqual(ways(Road(MIXED), many), table_by_rows(MIXED, many))

    def test_begin_and_end_are_not_mixed_up(self):
        self.assertEqual(ways(Road([0, 2, 2]), 1), [[1, 1], [0, 0]])
        self.assertEqual(ways(Road([0, 2, 2]), 5), [[1, 1], [0, 0]])
        self.assertEqual(ways(Road([1, 2, 0]), 2), [[1, 1], [1, 2]])
        self.assertEqual(ways(Road([0, 3, 1, 2]), 3), table_by_rows([0, 3, 1, 2], 3))

    def test_steps_followed_by_steps(self):
        for heights in list(great_roads()) + [LAYERS, [1, 2, 0], [0, 1, 3, 2]]:
            road = Road(heights)
            for one, other in ((0, 7), (1, 1), (2, 3), (12, 1), (17, 13), (30, 30), (1, 59)):
                self.assertEqual(ways(road, one + other), after_table(ways(road, one), ways(road, other)))

    def test_sixty_steps_on_wide_roads(self):
        same = [[int(i == j) for j in range(24)] for i in range(24)]
        self.assertEqual(ways(Road(ZIGZAG), 60), [[24 ** 59] * 24] * 24)
        self.assertEqual(ways(Road(RISING), 60), same)
        self.assertEqual(ways(Road(FALLING), 60), same)
        self.assertEqual(ways(Road(FALLING), 59), [line[::-1] for line in same])
        self.assertEqual(ways(Road([7] * 25), 60), [[0] * 24] * 24)
        for heights in great_roads():
            self.assertEqual(ways(Road(heights), 60), table_of(heights, 60))

    def test_each_number_of_steps(self):
        one, other = 0, 1
        for many in range(1, 61):
            self.assertEqual(ways(Road([1, 2, 0]), many), [[one, other], [other, one + other]])
            one, other = other, one + other
        self.assertEqual(other, 2504730781961)

    def test_kinds(self):
        told = ways(Road(MIXED), 3)
        self.assertIs(type(told), list)
        for line in told:
            self.assertIs(type(line), list)
            self.assertEqual({type(number) for number in line}, {int})

    def test_too_few_and_too_many_steps(self):
        for heights in ([0, 1], MIXED, ZIGZAG):
            for many in (-1, -2, -GREAT, 61, 62, GREAT):
                with self.subTest(many=many):
                    with self.assertRaises(BadCount):
                        ways(Road(heights), many)

    def test_a_told_table_is_a_new_one(self):
        for heights in (MIXED, [0, 2, 0], [1, 1, 1], ZIGZAG):
            road = Road(heights)
            for many in (0, 1, 2, 7):
                wanted = table_of(heights, many)
                told = ways(road, many)
                told[0][0] += 5
                self.assertEqual([line[1:] for line in told], [line[1:] for line in wanted])
                self.assertEqual(told[1:], wanted[1:])
                told[1].clear()
                told.pop()
                self.assertEqual(ways(road, many), wanted)
                self.assertEqual(ways(road, many + 1), table_of(heights, many + 1))


class Rows(unittest.TestCase):

    def by_trying(self, heights, many):
        tried = product(range(len(heights) - 1), repeat=many)
        return [row for row in tried if is_row(heights, row + row[:1])]

    def check(self, heights, many):
        if too_long(heights, many):
            with self.assertRaises(TooLong):
                rows(Road(heights), many)
            return
        told = rows(Road(heights), many)
        self.assertIs(type(told), list)
        self.assertTrue(all(type(row) is tuple for row in told))
        self.assertEqual(told, self.by_trying(heights, many), (heights, many))

    def test_written_out(self):
        self.assertEqual(rows(Road([1, 2, 0]), 1), [(1,)])
        self.assertEqual(rows(Road([1, 2, 0]), 2), [(0, 1), (1, 0), (1, 1)])
        self.assertEqual(rows(Road([1, 2, 0]), 3), [(0, 1, 1), (1, 0, 1), (1, 1, 0), (1, 1, 1)])
        self.assertEqual(rows(Road([1, 1]), 1), [])
        self.assertEqual(rows(Road([1, 0]), 12), [(0,) * 12])

    def test_one_to_twelve_on_narrow_roads(self):
        for heights in small_roads((1, 2)):
            for many in range(1, 13):
                self.check(heights, many)

    def test_few_on_roads_of_three_stretches(self):
        for heights in small_roads((3,)):
            for many in range(1, 6):
                self.check(heights, many)

    def test_longer_ones_on_some_roads(self):
        for heights in ([1, 2, 3, 0], [3, 2, 0, 1], [0, 1, 3, 2], [1, 3, 1, 0]):
            for many in range(6, 10):
                self.check(heights, many)
        for many in (3, 4, 5):
            self.check([2, 4, 3, 1, 0], many)
            self.check(MIXED, many)

    def test_twelve_on_wide_roads(self):
        self.assertEqual(rows(Road(RISING), 12), [(k,) * 12 for k in range(24)])
        self.assertEqual(rows(Road(FALLING), 12), [(k, 23 - k) * 6 for k in range(24)])
        self.assertEqual(rows(Road(FALLING), 11), [])
        self.assertEqual(rows(Road([7] * 25), 12), [])

    def test_a_thousand_ways_are_gone_through(self):
        self.assertEqual(total(table_of(TEN, 2)), 1000)
        self.assertEqual(rows(Road(TEN), 2), list(product(range(10), repeat=2)))
        self.assertEqual(total(table_of(THOUSAND, 3)), 1000)
        self.assertEqual(rows(Road(THOUSAND), 3), self.by_trying(THOUSAND, 3))

    def test_more_than_a_thousand_ways_are_not(self):
        self.assertEqual(total(table_of(ONE_MORE, 3)), 1001)
        for heights, many in ((ONE_MORE, 3), (TEN, 3), (TEN, 12), (ZIGZAG, 2), ([0, 11] * 5 + [0, 11], 2), (LAYERS, 3)):
            with self.assertRaises(TooLong):
                rows(Road(heights), many)
        self.assertEqual(len(rows(Road(ONE_MORE), 2)), sum(table_of(ONE_MORE, 2)[k][k] for k in range(9)))
        self.assertEqual(rows(Road(ZIGZAG), 1), [(k,) for k in range(24)])

    def test_ways_of_fewer_steps_are_not_counted(self):
        self.assertGreater(total(table_of(LAYERS, 3)), 1000)
        for many in range(4, 13):
            self.assertEqual(rows(Road(LAYERS), many), [(23,) * many])

    def test_refused_numbers(self):
        for heights in ([0, 1], MIXED, ZIGZAG):
            for many in (0, -1, -GREAT, 13, 14, GREAT):
                with self.subTest(many=many):
                    with self.assertRaises(BadCount):
                        rows(Road(heights), many)

    def test_a_told_list_is_a_new_one(self):
        road = Road([1, 2, 0])
        rows(road, 2).clear()
        rows(road, 2)[0] = (5, 5)
        self.assertEqual(rows(road, 2), [(0, 1), (1, 0), (1, 1)])
        self.assertEqual(road.corners(), [1, 2, 0])


if __name__ == "__main__":
    unittest.main()
