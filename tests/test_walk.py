"""Walking: single steps, traces, far steps, standing, meeting, and the least number."""

import unittest
from fractions import Fraction

from helper import (FALLING, FAR, FOLDED, GREAT, MIXED, PRIME, RISING, TENT, ZIGZAG, as_point, fractions, great_roads,
                    small_roads, step_from, steps_from)

from crookroad.errors import BadBottom, BadCount, OffRoad, TooLong
from crookroad.road import Road
from crookroad.walk import far, least, meeting, stands, tail_ring, walked

# Points whose traces are as long as may be (1000), or by one longer.
LONG = [(TENT, (1, 1997)), (TENT, (4, 7988)), (FOLDED, (3, 10291)), (FOLDED, (1, 1999))]
LONGER = [(TENT, (1, 3994)), (FOLDED, (1, 10291)), (FOLDED, (2, 10291)), (TENT, (2, 10625))]
ENDLESS = (1, 10 ** 60 + 7)


def split(heights, x):
    """Tail and ring of a place, found step by step."""
    seen = []
    while x not in seen:
        seen.append(x)
        x = step_from(heights, x)
    turn = seen.index(x)
    return seen[:turn], seen[turn:]


def some_roads():
    yield from small_roads((1, 2))
    for heights in ([1, 2, 3, 0], [0, 3, 1, 2], [3, 3, 0, 1], [2, 0, 3, 1], FOLDED, [2, 4, 3, 1, 0], MIXED,
                    RISING, FALLING, ZIGZAG, [k * k % 25 for k in range(25)]):
        yield heights


def some_points(heights):
    width = len(heights) - 1
    if width < 6:
        return fractions(width, (1, 2, 3, 5, 12))
    return fractions(width, (1, 2, 5))[::3] + [Fraction(width), Fraction(width * 9 - 1, 9), Fraction(1, 12)]


def bad_points(width):
    """Points of each wrong form, with the refusal that is due."""
    return [((0, 0), BadBottom), ((1, 0), BadBottom), ((1, -1), BadBottom), ((-1, -1), BadBottom),
            ((GREAT, 0), BadBottom), ((-3, 0), BadBottom), ((width + 1, -1), BadBottom),
            ((-1, 1), OffRoad), ((-1, GREAT), OffRoad), ((width + 1, 1), OffRoad),
            ((width * PRIME + 1, PRIME), OffRoad), ((GREAT, 1), OffRoad)]


class Walked(unittest.TestCase):

    def test_written_out(self):
        road = Road(MIXED)
        self.assertEqual(walked(road, (1, 3), 0), [(1, 3)])
        self.assertEqual(walked(road, (2, 6), 1), [(1, 3), (11, 3)])
        self.assertEqual(walked(road, (1, 4), 3), [(1, 4), (7, 2), (1, 2), (4, 1)])
        self.assertEqual(walked(Road([0, 0]), (1, 2), 3), [(1, 2), (0, 1), (0, 1), (0, 1)])

    def test_against_single_steps(self):
        for heights in some_roads():
            road = Road(heights)
            for x in some_points(heights):
                for many in (0, 1, 2, 7):
                    wanted = [as_point(steps_from(heights, x, k)) for k in range(many + 1)]
                    told = walked(road, as_point(x), many)
                    self.assertIs(type(told), list)
                    self.assertEqual(told, wanted)

    def test_not_in_lowest_terms(self):
        for top, bottom in ((0, 6), (10, 4), (15, 3), (12, 8), (0, PRIME), (5 * PRIME, PRIME), (2 * PRIME, 3 * PRIME)):
            x = Fraction(top, bottom)
            told = walked(Road(MIXED), (top, bottom), 4)
            self.assertEqual(told, [as_point(steps_from(MIXED, x, k)) for k in range(5)])

    def test_a_thousand_steps(self):
        for heights, point in LONG + LONGER + [(ZIGZAG, (1, PRIME)), (MIXED, (7, 3)), (TENT, (1, 2 ** 200))]:
            told = walked(Road(heights), point, 1000)
            self.assertEqual(len(told), 1001)
            x = Fraction(*point)
            for at in told:
                self.assertEqual(at, as_point(x))
                x = step_from(heights, x)

    def test_a_long_trace_is_no_refusal(self):
        bottom = ENDLESS[1]
        self.assertEqual(walked(Road(TENT), ENDLESS, 2), [(1, bottom), (2, bottom), (4, bottom)])
        self.assertEqual(len(set(walked(Road(TENT), ENDLESS, 1000))), 1001)
        self.assertEqual(len(set(walked(Road(TENT), (1, 3994), 1000))), 1001)

    def test_no_bottom_grows(self):
        for heights in great_roads():
            for point in ((1, 2), (5, 12), (99, 100), (1, PRIME), (123, 10 ** 60)):
                told = walked(Road(heights), point, 40)
                for one, other in zip(told, told[1:]):
                    self.assertLessEqual(other[1], one[1])

    def test_too_few_and_too_many_steps(self):
        for many in (-1, -2, -GREAT, 1001, 1002, FAR, GREAT):
            with self.subTest(many=many):
                with self.assertRaises(BadCount):
                    walked(Road(MIXED), (1, 2), many)

    def test_a_told_list_is_a_new_one(self):
        road = Road(MIXED)
        walked(road, (1, 4), 3).clear()
        walked(road, (1, 4), 3)[0] = (9, 9)
        self.assertEqual(walked(road, (1, 4), 3), [(1, 4), (7, 2), (1, 2), (4, 1)])


class TailRing(unittest.TestCase):

    def test_written_out(self):
        self.assertEqual(tail_ring(Road([0, 1]), (2, 6)), ([], [(1, 3)]))
        self.assertEqual(tail_ring(Road([1, 0]), (1, 2)), ([], [(1, 2)]))
        self.assertEqual(tail_ring(Road([1, 0]), (3, 9)), ([], [(1, 3), (2, 3)]))
        self.assertEqual(tail_ring(Road(TENT), (1, 4)), ([(1, 4), (1, 2), (1, 1), (2, 1)], [(0, 1)]))
        self.assertEqual(tail_ring(Road(TENT), (1, 3)), ([(1, 3), (2, 3)], [(4, 3)]))
        self.assertEqual(tail_ring(Road(TENT), (1, 5)), ([(1, 5), (2, 5)], [(4, 5), (8, 5)]))
        self.assertEqual(tail_ring(Road([1, 2, 0]), (0, 7)), ([], [(0, 1), (1, 1), (2, 1)]))
        self.assertEqual(tail_ring(Road([1, 2, 0]), (2, 1)), ([], [(2, 1), (0, 1), (1, 1)]))

    def test_against_single_steps(self):
        for heights in some_roads():
            road = Road(heights)
            for x in some_points(heights):
                tail, ring = split(heights, x)
                told = tail_ring(road, (x.numerator * 3, x.denominator * 3))
                self.assertEqual(told, ([as_point(y) for y in tail], [as_point(y) for y in ring]))
                self.assertEqual([type(told), type(told[0]), type(told[1])], [tuple, list, list])

    def test_both_ends_of_the_road(self):
        for heights in some_roads():
            for end in (0, len(heights) - 1):
                tail, ring = split(heights, Fraction(end))
                told = tail_ring(Road(heights), (end, 1))
                self.assertEqual(told, ([as_point(y) for y in tail], [as_point(y) for y in ring]))

    def test_a_trace_of_a_thousand_points(self):
        for heights, point in LONG:
            tail, ring = tail_ring(Road(heights), point)
            self.assertEqual(len(tail) + len(ring), 1000)
            self.assertEqual(tail + ring, walked(Road(heights), point, 999))
            self.assertEqual(len(set(tail + ring)), 1000)
            self.assertEqual(Road(heights).at(ring[-1]), ring[0])
        self.assertEqual([len(tail_ring(Road(heights), point)[0]) for heights, point in LONG], [2, 2, 0, 1])

    def test_a_longer_trace_is_refused(self):
        for heights, point in LONGER:
            told = walked(Road(heights), point, 1000)
            self.assertEqual(len(set(told)), 1001)
            with self.assertRaises(TooLong):
                tail_ring(Road(heights), point)
            with self.assertRaises(TooLong):
                least(Road(heights), point)
            self.assertEqual(len(set(walked(Road(heights), told[1], 1000))), 1000)
            self.assertEqual(sum(len(part) for part in tail_ring(Road(heights), told[1])), 1000)

    def test_told_lists_are_new_ones(self):
        road = Road(TENT)
        told = tail_ring(road, (1, 5))
        told[0].clear()
        told[1].append((1, 1))
        self.assertEqual(tail_ring(road, (1, 5)), ([(1, 5), (2, 5)], [(4, 5), (8, 5)]))


class Far(unittest.TestCase):

    def test_few_steps(self):
        for heights in some_roads():
            road = Road(heights)
            for x in some_points(heights):
                for many in (0, 1, 2, 3, 11, 40):
                    told = far(road, (x.numerator * 2, x.denominator * 2), many)
                    self.assertEqual(told, as_point(steps_from(heights, x, many)))

    def test_many_steps_by_the_ring(self):
        for heights in some_roads():
            road = Road(heights)
            for x in some_points(heights)[::4]:
                tail, ring = split(heights, x)
                for many in (1000, 1001, 10 ** 30, FAR - 1, FAR, FAR // 7, 3 ** 120):
                    self.assertEqual(far(road, as_point(x), many), as_point(ring[(many - len(tail)) % len(ring)]))

    def test_each_number_of_steps_on_one_trace(self):
        for heights, point in LONG:
            road = Road(heights)
            told = walked(road, point, 1000)
            for many in list(range(0, 1001, 37)) + [997, 998, 999, 1000]:
                self.assertEqual(far(road, point, many), told[many])
            self.assertEqual(far(road, far(road, point, FAR // 2), FAR // 2), far(road, point, FAR))

    def test_refused_numbers(self):
        for many in (-1, -FAR, FAR + 1, GREAT):
            with self.subTest(many=many):
                with self.assertRaises(BadCount):
                    far(Road(MIXED), (1, 2), many)

    def test_a_longer_trace_is_refused_by_no_step_too(self):
        for heights, point in LONGER + [(TENT, ENDLESS)]:
            for many in (0, 1, 5, FAR):
                with self.assertRaises(TooLong):
                    far(Road(heights), point, many)


class Stands(unittest.TestCase):

    def test_written_out(self):
        road = Road(TENT)
        self.assertEqual([stands(road, (1, 5), many, (4, 5)) for many in range(8)], [0, 0, 1, 1, 2, 2, 3, 3])
        self.assertEqual([stands(road, (1, 5), many, (8, 5)) for many in range(8)], [0, 0, 0, 1, 1, 2, 2, 3])
        self.assertEqual([stands(road, (1, 5), many, (2, 5)) for many in range(4)], [0, 1, 1, 1])
        self.assertEqual([stands(road, (4, 5), many, (4, 5)) for many in range(7)], [0, 0, 1, 1, 2, 2, 3])
        self.assertEqual(stands(road, (1, 5), FAR, (1, 5)), 0)
        self.assertEqual(stands(road, (1, 5), FAR, (1, 1)), 0)
        self.assertEqual(stands(road, (1, 5), FAR, (8, 10)), FAR // 2)
        self.assertEqual(stands(road, (1, 5), FAR, (8, 5)), FAR // 2 - 1)
        self.assertEqual(stands(road, (0, 3), FAR, (0, 2)), FAR)
        self.assertEqual(stands(road, (1, 1), FAR, (0, 1)), FAR - 1)

    def test_against_single_steps(self):
        for heights in list(some_roads())[:25] + [[1, 2, 3, 0], MIXED, [2, 4, 3, 1, 0]]:
            road = Road(heights)
            for x in some_points(heights)[::3]:
                led = [steps_from(heights, x, k) for k in range(1, 24)]
                for other in sorted(set(led + [x, Fraction(1), Fraction(1, 7)])):
                    asked = (other.numerator * 5, other.denominator * 5)
                    for many in (0, 1, 2, 3, 10, 23):
                        told = stands(road, as_point(x), many, asked)
                        self.assertEqual(told, led[:many].count(other), (heights, x, many, other))

    def test_many_steps_all_told_together(self):
        for heights, point in [(TENT, (1, 5)), (MIXED, (7, 12)), (FOLDED, (1, 7)), (RISING, (1, 3))]:
            road = Road(heights)
            tail, ring = tail_ring(road, point)
            for many in (FAR, FAR - 1, 10 ** 40 + 7, 1000):
                told = [stands(road, point, many, other) for other in tail + ring]
                self.assertEqual(sum(told), many)
                self.assertEqual(told[:len(tail)], [0, 1, 1, 1, 1, 1][:len(tail)])
                self.assertLessEqual(max(told[len(tail):]) - min(told[len(tail):]), 1)

    def test_refused_numbers(self):
        for many in (-1, -FAR, FAR + 1, GREAT):
            with self.subTest(many=many):
                with self.assertRaises(BadCount):
                    stands(Road(MIXED), (1, 2), many, (1, 2))

    def test_the_other_point_is_refused(self):
        for heights in ([0, 1], MIXED, ZIGZAG):
            for wrong, refused in bad_points(len(heights) - 1):
                for many in (0, 5, FAR):
                    with self.subTest(wrong=wrong):
                        with self.assertRaises(refused):
                            stands(Road(heights), (1, 2), many, wrong)

    def test_too_long_is_for_the_first_point_alone(self):
        for heights, point in LONGER + [(TENT, ENDLESS)]:
            for many in (0, 1, FAR):
                with self.assertRaises(TooLong):
                    stands(Road(heights), point, many, (1, 1))
                with self.assertRaises(TooLong):
                    stands(Road(heights), point, many, point)
                self.assertEqual(stands(Road(heights), (1, 1), many, point), 0)


class Meeting(unittest.TestCase):

    def slowly(self, heights, one, other):
        seen = []
        while (one, other) not in seen:
            if one == other:
                return len(seen)
            seen.append((one, other))
            one, other = step_from(heights, one), step_from(heights, other)
        return None

    def test_written_out(self):
        road = Road(TENT)
        self.assertEqual(meeting(road, (1, 3), (4, 12)), 0)
        self.assertEqual(meeting(road, (0, 5), (0, 1)), 0)
        self.assertEqual(meeting(road, (1, 2), (3, 2)), 1)
        self.assertEqual(meeting(road, (1, 4), (0, 1)), 4)
        self.assertIsNone(meeting(road, (4, 5), (8, 5)))
        self.assertIsNone(meeting(road, (4, 3), (0, 1)))
        self.assertEqual(meeting(Road([1, 1]), (0, 1), (1, 3)), 1)
        self.assertIsNone(meeting(Road([1, 2, 0]), (0, 1), (1, 1)))

    def test_both_ways_round_against_single_steps(self):
        for heights in some_roads():
            road = Road(heights)
            points = some_points(heights)[::5]
            for one in points:
                for other in points:
                    told = meeting(road, as_point(one), (other.numerator * 6, other.denominator * 6))
                    self.assertEqual(told, self.slowly(heights, one, other), (heights, one, other))
                    self.assertEqual(meeting(road, as_point(other), as_point(one)), told)

    def test_a_point_with_itself_written_otherwise(self):
        for heights in some_roads():
            for x in some_points(heights)[::4]:
                told = meeting(Road(heights), as_point(x), (x.numerator * 7, x.denominator * 7))
                self.assertEqual(told, 0)
                self.assertIs(type(told), int)

    def test_late_meetings(self):
        road = Road(TENT)
        self.assertEqual(meeting(road, (1, 2 ** 200), (3, 2 ** 200)), 200)
        self.assertEqual(meeting(road, (1, 2 ** 200), (0, 1)), 202)
        self.assertEqual(meeting(road, (2, 1), (1, 2 ** 100)), 102)
        self.assertEqual(meeting(Road(FOLDED), (1, 3 ** 100), (1, 3 ** 99)), 101)

    def test_two_points_of_one_trace(self):
        heights, point = LONG[0]
        road = Road(heights)
        told = walked(road, point, 999)
        self.assertIsNone(meeting(road, told[3], told[4]))
        self.assertIsNone(meeting(road, told[0], told[999]))
        self.assertEqual(meeting(road, told[1], told[999]), 1)
        self.assertEqual(meeting(road, told[998], told[0]), 2)

    def test_too_long_at_either_place(self):
        for heights, point in LONGER + [(TENT, ENDLESS)]:
            road = Road(heights)
            for other in ((0, 1), (1, 3), point, (point[0] * 2, point[1] * 2)):
                with self.assertRaises(TooLong):
                    meeting(road, point, other)
                with self.assertRaises(TooLong):
                    meeting(road, other, point)


class Least(unittest.TestCase):

    def test_written_out(self):
        self.assertEqual(least(Road(TENT), (0, 4)), 1)
        self.assertEqual(least(Road(TENT), (8, 6)), 1)
        self.assertEqual(least(Road(TENT), (4, 5)), 2)
        self.assertIsNone(least(Road(TENT), (2, 5)))
        self.assertIsNone(least(Road(TENT), (1, 1)))
        self.assertEqual([least(Road([1, 2, 0]), (k, 1)) for k in range(3)], [3, 3, 3])
        self.assertEqual(least(Road([1, 1, 1]), (1, 1)), 1)
        self.assertIsNone(least(Road([1, 1, 1]), (0, 1)))

    def test_by_tail_and_ring(self):
        for heights in some_roads():
            for x in some_points(heights):
                tail, ring = split(heights, x)
                told = least(Road(heights), (x.numerator * 3, x.denominator * 3))
                self.assertEqual(told, None if tail else len(ring))

    def test_long_rings(self):
        self.assertEqual(least(*self.road_and_point(LONG[2])), 1000)
        self.assertEqual([least(*self.road_and_point(long)) for long in LONG[:2] + LONG[3:]], [None] * 3)

    def road_and_point(self, long):
        return Road(long[0]), long[1]


class Refusals(unittest.TestCase):

    def calls(self, road):
        """Each function with the point at one of its places, all else being right."""
        yield lambda wrong: walked(road, wrong, 1)
        yield lambda wrong: tail_ring(road, wrong)
        yield lambda wrong: far(road, wrong, 1)
        yield lambda wrong: stands(road, wrong, 1, (1, 2))
        yield lambda wrong: stands(road, (1, 2), 1, wrong)
        yield lambda wrong: meeting(road, wrong, (1, 2))
        yield lambda wrong: meeting(road, (1, 2), wrong)
        yield lambda wrong: least(road, wrong)

    def test_wrong_points(self):
        for heights in ([0, 1], TENT, MIXED, ZIGZAG):
            for wrong, refused in bad_points(len(heights) - 1):
                for call in self.calls(Road(heights)):
                    with self.subTest(heights=heights, wrong=wrong):
                        with self.assertRaises(refused):
                            call(wrong)

    def test_a_bad_point_goes_ahead_of_a_bad_number(self):
        road = Road(TENT)
        for wrong, refused in bad_points(2):
            for many in (-1, FAR + 1, GREAT):
                for call in (lambda: walked(road, wrong, many), lambda: far(road, wrong, many),
                             lambda: stands(road, wrong, many, (1, 1)), lambda: stands(road, wrong, many, (1, 0)),
                             lambda: stands(road, wrong, many, (3, 1))):
                    with self.subTest(wrong=wrong, many=many):
                        with self.assertRaises(refused):
                            call()

    def test_a_bad_number_goes_ahead_of_the_other_point(self):
        for wrong, refused in bad_points(2):
            for many in (-1, FAR + 1):
                with self.assertRaises(BadCount):
                    stands(Road(TENT), (1, 2), many, wrong)

    def test_two_bad_points(self):
        road = Road(TENT)
        for one, refused in bad_points(2):
            for other, later in bad_points(2):
                with self.subTest(one=one, other=other):
                    with self.assertRaises(refused):
                        meeting(road, one, other)
                    with self.assertRaises(refused):
                        stands(road, one, 1, other)

    def test_too_long_goes_behind_all_others(self):
        road = Road(TENT)
        for many in (-1, FAR + 1):
            with self.assertRaises(BadCount):
                far(road, ENDLESS, many)
            with self.assertRaises(BadCount):
                stands(road, ENDLESS, many, (1, 1))
        for wrong, refused in bad_points(2):
            with self.assertRaises(refused):
                stands(road, ENDLESS, 1, wrong)
            with self.assertRaises(refused):
                meeting(road, ENDLESS, wrong)
            with self.assertRaises(refused):
                meeting(road, wrong, ENDLESS)

    def test_asking_changes_nothing(self):
        heights = list(MIXED)
        road = Road(heights)
        for changed in (False, True):
            if changed:
                heights.clear()
            self.assertEqual(walked(road, (1, 4), 3), [(1, 4), (7, 2), (1, 2), (4, 1)])
            self.assertEqual(tail_ring(road, (0, 1)), ([], [(0, 1), (3, 1)]))
            self.assertEqual(far(road, (0, 1), FAR), (0, 1))
            self.assertEqual(stands(road, (5, 1), 3, (1, 1)), 1)
            self.assertEqual(meeting(road, (1, 1), (2, 1)), 1)
            self.assertEqual(least(road, (3, 1)), 2)
            for wrong, refused in bad_points(5):
                with self.assertRaises(refused):
                    far(road, wrong, 3)
        self.assertEqual(road.corners(), MIXED)


if __name__ == "__main__":
    unittest.main()
