"""The house: each refusal by its class, what comes first where two are due, and that nothing has changed."""

import unittest

from helper import GREAT, LAYERS, RISING, TENT
from houses import FAR, asked_to_the_end, house_of

from crookroad.errors import (Apart, BadBottom, BadCount, BadLine, BadName, NoRoad, NothingDone, NoWalker, OffRoad,
                              Stood, Taken, TooLong)
from crookroad.house import House

NO_NAMES = ("", "A", "aB", "a b", " a", "a ", "a\n", "\n", "a1", "1", "a-b", "a_b", "abcdefghijklm", "a" * 13, "z" * 1000,
            "~", "`", "{", "ab.", "Z")
WRONG_MANY = (-1, -2, -FAR, FAR + 1, FAR + 2, GREAT)


def some_house():
    house = house_of({"a": [1, 2, 0], "b": [0, 1, 2], "wide": RISING, "least": [0, 1], "layers": LAYERS},
                     [("me", "a", (1, 2)), ("you", "a", (2, 1)), ("he", "b", (4, 3)), ("far", "wide", (47, 2))])
    house.go("me", 3)
    house.together("a", 2)
    house.bend("b", 0, 1)
    house.place("gone", "b", (0, 1))
    house.leave("gone")
    return house


class Refusals(unittest.TestCase):

    def setUp(self):
        self.house = some_house()

    def tearDown(self):
        # What was refused has changed nothing, nor what can be taken back.
        self.assertEqual(asked_to_the_end(self.house), asked_to_the_end(some_house()))

    def refuse(self, error, deed, *arguments):
        with self.subTest(deed=deed, arguments=arguments):
            with self.assertRaises(error) as caught:
                getattr(self.house, deed)(*arguments)
            self.assertIs(type(caught.exception), error)

    def test_names_of_another_form(self):
        for name in NO_NAMES:
            self.refuse(BadName, "lay", name, TENT)
            self.refuse(BadName, "place", name, "a", (1, 2))

    def test_bad_names_go_ahead_of_all_else(self):
        for name in NO_NAMES:
            self.refuse(BadName, "lay", name, [])
            self.refuse(BadName, "place", name, "nobody", (1, 0))

    def test_names_that_are_taken(self):
        for name in ("a", "b", "wide", "least", "layers"):
            self.refuse(Taken, "lay", name, TENT)
            self.refuse(Taken, "lay", name, [3])
        for name in ("me", "you", "he", "far"):
            self.refuse(Taken, "place", name, "a", (1, 2))
            self.refuse(Taken, "place", name, "nobody", (1, 0))

    def test_a_road_and_a_walker_may_have_one_name(self):
        house = house_of({"a": TENT})
        house.place("a", "a", (1, 1))
        house.lay("me", TENT)
        house.place("me", "me", (1, 1))
        self.assertEqual(house.names(), (["a", "me"], ["a", "me"]))

    def test_names_of_walkers_are_no_names_of_roads(self):
        for name in ("me", "you", "gone"):
            self.refuse(NoRoad, "bend", name, 0, 0)
            self.refuse(NoRoad, "corners_of", name)
        for name in ("a", "wide", "gone"):
            self.refuse(NoWalker, "leave", name)
            self.refuse(NoWalker, "where", name)

    def test_no_such_road(self):
        for name in NO_NAMES + ("c", "aa", "gone"):
            self.refuse(NoRoad, "bend", name, 0, 0)
            self.refuse(NoRoad, "bend", name, 99, 99)
            self.refuse(NoRoad, "widen", name, 0)
            self.refuse(NoRoad, "widen", name, -1)
            self.refuse(NoRoad, "narrow", name)
            self.refuse(NoRoad, "clear", name)
            self.refuse(NoRoad, "place", "new", name, (0, 1))
            self.refuse(NoRoad, "place", "new", name, (0, 0))
            self.refuse(NoRoad, "together", name, 1)
            self.refuse(NoRoad, "together", name, -1)
            self.refuse(NoRoad, "corners_of", name)
            self.refuse(NoRoad, "lengths_of", name, 3)
            self.refuse(NoRoad, "lengths_of", name, 0)

    def test_no_such_walker(self):
        for name in NO_NAMES + ("c", "aa", "gone"):
            self.refuse(NoWalker, "leave", name)
            self.refuse(NoWalker, "go", name, 1)
            self.refuse(NoWalker, "go", name, -1)
            self.refuse(NoWalker, "where", name)
            self.refuse(NoWalker, "stood", name, (0, 1))
            self.refuse(NoWalker, "stood", name, (0, 0))
            self.refuse(NoWalker, "meet", name, "me")
            self.refuse(NoWalker, "meet", "me", name)
            self.refuse(NoWalker, "meet", name, name)
            self.refuse(NoWalker, "meet", "he", name)

    def test_lists_that_are_no_roads(self):
        for heights in ([], [0], [1], [0, 2], [2, 0], [-1, 0], [0, -1], [0, 1, 3], [0] * 26, [25] + [0] * 24,
                        [GREAT, 0], list(range(26))):
            self.refuse(BadLine, "lay", "new", heights)

    def test_corners_and_heights_that_are_not_there(self):
        for corner in (-1, -2, -3, 3, 4, 24, GREAT, -GREAT):
            self.refuse(BadLine, "bend", "a", corner, 0)
            self.refuse(BadLine, "bend", "a", corner, 9)
        for height in (-1, 3, 4, GREAT, -GREAT):
            for corner in (0, 1, 2):
                self.refuse(BadLine, "bend", "a", corner, height)
        for corner in (25, -1, -25):
            self.refuse(BadLine, "bend", "wide", corner, 0)
        for height in (25, -1):
            self.refuse(BadLine, "bend", "wide", 24, height)

    def test_not_widened(self):
        for height in (-1, 4, 5, GREAT, -GREAT):
            self.refuse(BadLine, "widen", "a", height)
        for height in (0, 24, 25, 26, -1):
            self.refuse(BadLine, "widen", "wide", height)
        self.refuse(BadLine, "widen", "least", 3)

    def test_not_narrowed(self):
        self.refuse(BadLine, "narrow", "least")
        # The heights that would be left are 1 and 2.
        self.refuse(BadLine, "narrow", "a")
        self.refuse(BadLine, "narrow", "layers")
        self.refuse(Stood, "narrow", "wide")
        self.refuse(Stood, "narrow", "b")

    def test_a_bad_line_goes_ahead_of_stood(self):
        # Both are due for the road a: its heights, and who stands at its end.
        self.house.place("new", "a", (2, 1))
        self.refuse(BadLine, "narrow", "a")
        self.house.take_back()
        house = house_of({"a": [0, 1]}, [("me", "a", (1, 1))])
        with self.assertRaises(BadLine):
            house.narrow("a")

    def test_a_walker_just_beyond_what_would_be_left(self):
        house = house_of({"a": [0, 1, 2, 3]})
        for point, free in (((2, 1), True), ((81, 40), False), ((3, 1), False), ((79, 40), True), ((0, 1), True)):
            house.place("me", "a", point)
            if free:
                house.narrow("a")
                house.take_back()
            else:
                with self.assertRaises(Stood):
                    house.narrow("a")
            self.assertEqual(house.corners_of("a"), [0, 1, 2, 3])
            house.leave("me")

    def test_walkers_of_other_roads_are_not_in_the_way(self):
        house = house_of({"a": [0, 1, 2], "b": [0, 1, 2]}, [("a", "b", (2, 1))])
        house.narrow("a")
        house.clear("a")
        with self.assertRaises(Stood):
            house.narrow("b")
        with self.assertRaises(Stood):
            house.clear("b")

    def test_not_cleared(self):
        for name in ("a", "b", "wide"):
            self.refuse(Stood, "clear", name)

    def test_bottoms_that_are_refused(self):
        for bottom in (0, -1, -40, -GREAT):
            for top in (0, 1, -1, 99):
                self.refuse(BadBottom, "place", "new", "a", (top, bottom))
                self.refuse(BadBottom, "stood", "me", (top, bottom))
        for point in ((1, 41), (2, 82), (1, 10 ** 69), (GREAT, GREAT - 1), (81, 82)):
            self.refuse(BadBottom, "place", "new", "a", point)

    def test_bad_bottoms_go_ahead_of_off_the_road(self):
        for point in ((-1, 41), (99 * 41 + 1, 41), (-1, 0), (GREAT, GREAT - 1), (99, -3)):
            self.refuse(BadBottom, "place", "new", "a", point)

    def test_points_off_the_road(self):
        for point in ((-1, 1), (-1, 40), (3, 1), (81, 40), (41, 20), (GREAT, 1), (-GREAT, 1), (-41, 41), (123, 41)):
            self.refuse(OffRoad, "place", "new", "a", point)
        self.refuse(OffRoad, "place", "new", "wide", (961, 40))
        self.refuse(OffRoad, "place", "new", "least", (41, 40))

    def test_numbers_of_steps(self):
        for many in WRONG_MANY:
            self.refuse(BadCount, "go", "me", many)
            self.refuse(BadCount, "together", "a", many)
            # Nobody is on this road.
            self.refuse(BadCount, "together", "least", many)

    def test_lengths_that_are_refused(self):
        for most in (0, -1, 13, 14, GREAT, -GREAT):
            for name in ("a", "wide", "layers"):
                self.refuse(BadCount, "lengths_of", name, most)
        for most in (3, 4, 12):
            self.refuse(TooLong, "lengths_of", "layers", most)

    def test_walkers_on_two_roads(self):
        for one, other in (("me", "he"), ("he", "me"), ("you", "far"), ("far", "he")):
            self.refuse(Apart, "meet", one, other)

    def test_nothing_to_take_back(self):
        house = House()
        with self.assertRaises(NothingDone):
            house.take_back()
        house.lay("a", TENT)
        house.take_back()
        for again in range(2):
            with self.assertRaises(NothingDone) as caught:
                house.take_back()
            self.assertIs(type(caught.exception), NothingDone)
        self.assertEqual(house.names(), ([], []))
        self.assertEqual(house.deeds(), 0)


if __name__ == "__main__":
    unittest.main()
