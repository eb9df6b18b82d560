"""The house: each deed and each question, by answers that are written out."""

import unittest

from helper import FALLING, LAYERS, MIXED, RISING, TENT, ZIGZAG
from houses import FAR, asked, house_of

from crookroad.errors import TooLong
from crookroad.house import House
from crookroad.notes import house_text
from crookroad.rings import lengths
from crookroad.road import Road

LEVEL = [7] * 25


class Roads(unittest.TestCase):

    def test_a_new_house(self):
        house = House()
        self.assertEqual(house.names(), ([], []))
        self.assertEqual(house.deeds(), 0)
        self.assertEqual(house_text(house), "")

    def test_laid(self):
        house = House()
        for name, heights in (("a", [0, 0]), ("widest", ZIGZAG), ("up", RISING), ("down", FALLING), ("level", LEVEL)):
            self.assertIsNone(house.lay(name, heights))
            self.assertEqual(house.corners_of(name), heights)
        self.assertEqual(house.names(), (["a", "down", "level", "up", "widest"], []))
        self.assertEqual(house.deeds(), 5)

    def test_names_of_one_to_twelve_small_letters(self):
        house = House()
        for name in ("a", "z", "azazazazazaz", "abcdefghijkl", "mnopqrstuvwx", "yz"):
            house.lay(name, TENT)
            house.place(name, name, (1, 2))
        told = ["a", "abcdefghijkl", "azazazazazaz", "mnopqrstuvwx", "yz", "z"]
        self.assertEqual(house.names(), (told, told))
        self.assertEqual(house.where("yz"), ("yz", (1, 2)))

    def test_bent(self):
        house = house_of({"a": [1, 2, 0]})
        self.assertIsNone(house.bend("a", 0, 0))
        self.assertEqual(house.corners_of("a"), [0, 2, 0])
        house.bend("a", 2, 2)
        self.assertEqual(house.corners_of("a"), [0, 2, 2])
        house.bend("a", 1, 0)
        self.assertEqual(house.corners_of("a"), [0, 0, 2])
        house.bend("a", 1, 0)
        self.assertEqual(house.corners_of("a"), [0, 0, 2])
        self.assertEqual(house.deeds(), 5)

    def test_bent_at_the_far_end_of_the_widest(self):
        house = house_of({"a": ZIGZAG})
        house.bend("a", 24, 24)
        house.bend("a", 0, 12)
        self.assertEqual(house.corners_of("a"), [12] + ZIGZAG[1:-1] + [24])

    def test_widened(self):
        house = house_of({"a": [0, 1]})
        self.assertIsNone(house.widen("a", 2))
        self.assertEqual(house.corners_of("a"), [0, 1, 2])
        house.widen("a", 0)
        self.assertEqual(house.corners_of("a"), [0, 1, 2, 0])
        house.bend("a", 0, 3)
        self.assertEqual(house.corners_of("a"), [3, 1, 2, 0])

    def test_widened_from_the_least_to_the_widest(self):
        house = house_of({"a": [0, 1]})
        for k in range(2, 25):
            house.widen("a", k)
        self.assertEqual(house.corners_of("a"), RISING)
        for k in range(24, 1, -1):
            self.assertIsNone(house.narrow("a"))
            self.assertEqual(house.corners_of("a"), list(range(k)))
        self.assertEqual(house.deeds(), 47)

    def test_narrowed_to_where_a_walker_stands(self):
        house = house_of({"a": [0, 1, 2, 3], "b": [0, 0, 0, 3]}, [("me", "a", (2, 1)), ("you", "b", (3, 1))])
        house.narrow("a")
        self.assertEqual(house.corners_of("a"), [0, 1, 2])
        self.assertEqual(house.where("me"), ("a", (2, 1)))
        self.assertEqual(house.corners_of("b"), [0, 0, 0, 3])

    def test_cleared(self):
        house = house_of({"a": TENT, "b": MIXED}, [("me", "b", (0, 1))])
        self.assertIsNone(house.clear("a"))
        self.assertEqual(house.names(), (["b"], ["me"]))
        house.lay("a", [1, 0])
        self.assertEqual(house.corners_of("a"), [1, 0])
        house.leave("me")
        house.clear("b")
        self.assertEqual(house.names(), (["a"], []))

    def test_lengths_of_the_road_as_it_stands(self):
        house = house_of({"a": [1, 2, 0], "up": RISING, "layers": LAYERS})
        self.assertEqual(house.lengths_of("a", 5), [1, 2, 3, 4, 5])
        self.assertEqual(house.lengths_of("a", 1), [1])
        house.bend("a", 0, 2)
        self.assertEqual(house.lengths_of("a", 12), [1, 2])
        house.take_back()
        self.assertEqual(house.lengths_of("a", 4), [1, 2, 3, 4])
        self.assertEqual(house.lengths_of("up", 12), [1])
        self.assertEqual(house.lengths_of("layers", 2), [1, 2])
        for most in (3, 12):
            with self.assertRaises(TooLong):
                house.lengths_of("layers", most)
        for heights in ([0, 0], MIXED, [3, 2, 0, 1], FALLING):
            told = house_of({"a": heights}).lengths_of("a", 4)
            self.assertEqual(told, lengths(Road(heights), 4))


class Walkers(unittest.TestCase):

    def test_set_down(self):
        house = house_of({"a": TENT, "b": [0, 1]})
        self.assertIsNone(house.place("me", "a", (6, 4)))
        house.place("you", "b", (0, 7))
        house.place("a", "a", (50, 25))
        self.assertEqual(house.where("me"), ("a", (3, 2)))
        self.assertEqual(house.where("you"), ("b", (0, 1)))
        self.assertEqual(house.where("a"), ("a", (2, 1)))
        self.assertEqual(house.names(), (["a", "b"], ["a", "me", "you"]))

    def test_bottoms_up_to_forty_in_lowest_terms(self):
        house = house_of({"a": RISING})
        house.place("me", "a", (1, 40))
        house.place("you", "a", (82, 82 * 40))
        house.place("she", "a", (10 ** 69, 2 * 10 ** 69))
        house.place("he", "a", (24 * 41, 41))
        self.assertEqual(house.where("me"), ("a", (1, 40)))
        self.assertEqual(house.where("you"), ("a", (1, 40)))
        self.assertEqual(house.where("she"), ("a", (1, 2)))
        self.assertEqual(house.where("he"), ("a", (24, 1)))

    def test_goes(self):
        house = house_of({"a": [1, 2, 0]}, [("me", "a", (1, 2))])
        self.assertEqual(house.go("me", 1), (3, 2))
        self.assertEqual(house.where("me"), ("a", (3, 2)))
        self.assertEqual(house.go("me", 0), (3, 2))
        self.assertEqual(house.go("me", 2), (2, 1))
        self.assertEqual(house.go("me", FAR), (0, 1))
        self.assertEqual(house.where("me"), ("a", (0, 1)))
        self.assertEqual(house.deeds(), 6)

    def test_goes_along_the_road_as_it_stands(self):
        house = house_of({"a": [0, 1, 2]}, [("me", "a", (1, 3))])
        self.assertEqual(house.go("me", 5), (1, 3))
        house.bend("a", 0, 2)
        self.assertEqual(house.where("me"), ("a", (1, 3)))
        self.assertEqual(house.go("me", 1), (5, 3))
        self.assertEqual(house.go("me", 1), (5, 3))
        house.widen("a", 3)
        self.assertEqual(house.where("me"), ("a", (5, 3)))
        house.bend("a", 2, 0)
        self.assertEqual(house.go("me", 1), (1, 3))

    def test_together(self):
        house = house_of({"a": [1, 2, 0], "b": [0, 1]},
                         [("you", "a", (0, 1)), ("me", "a", (1, 2)), ("she", "b", (1, 2)), ("he", "a", (2, 1))])
        told = house.together("a", 1)
        self.assertEqual(told, [("he", (0, 1)), ("me", (3, 2)), ("you", (1, 1))])
        self.assertEqual([type(one) for one in told], [tuple] * 3)
        self.assertEqual(house.together("a", 0), [("he", (0, 1)), ("me", (3, 2)), ("you", (1, 1))])
        self.assertEqual(house.together("a", FAR), [("he", (1, 1)), ("me", (1, 1)), ("you", (2, 1))])
        self.assertEqual(house.where("she"), ("b", (1, 2)))
        self.assertEqual(house.together("b", 3), [("she", (1, 2))])
        self.assertEqual(house.deeds(), 10)

    def test_together_where_nobody_is(self):
        house = house_of({"a": TENT, "b": TENT}, [("me", "b", (1, 1))])
        for many in (0, 1, FAR):
            self.assertEqual(house.together("a", many), [])
        self.assertEqual(house.deeds(), 6)
        self.assertEqual(house.where("me"), ("b", (1, 1)))

    def test_leaves(self):
        house = house_of({"a": TENT}, [("me", "a", (1, 1)), ("you", "a", (1, 1))])
        self.assertIsNone(house.leave("me"))
        self.assertEqual(house.names(), (["a"], ["you"]))
        house.place("me", "a", (0, 1))
        self.assertEqual(house.where("me"), ("a", (0, 1)))

    def test_meets(self):
        house = house_of({"a": [1, 2, 0], "b": TENT},
                         [("me", "a", (0, 1)), ("you", "a", (1, 2)), ("he", "b", (0, 1)), ("she", "b", (1, 2)),
                          ("it", "b", (2, 5))])
        self.assertIsNone(house.meet("me", "you"))
        self.assertEqual(house.meet("he", "she"), 3)
        self.assertEqual(house.meet("she", "he"), 3)
        self.assertEqual(house.meet("she", "she"), 0)
        self.assertIsNone(house.meet("it", "he"))
        house.go("she", 2)
        self.assertEqual(house.meet("he", "she"), 1)
        for corner, height, many in ((0, 2, 1), (1, 0, 2), (2, 2, 3), (0, 0, 1)):
            house.bend("a", corner, height)
            self.assertEqual(house.meet("me", "you"), many)
        house.place("near", "a", (0, 5))
        self.assertEqual(house.meet("near", "me"), 0)

    def test_the_longest_traces(self):
        # Of all bottoms up to 40 on the widest roads none has a trace of more than 961 points.
        for heights in ([k * 7 % 25 for k in range(25)], [k * k % 25 for k in range(25)], ZIGZAG,
                        list(range(12, 25)) + list(range(12))):
            house = house_of({"a": heights})
            for bottom in (37, 39, 40):
                house.place("me", "a", (1, bottom))
                house.place("you", "a", (5, bottom))
                house.go("me", FAR)
                house.together("a", FAR - 1)
                house.meet("me", "you")
                house.leave("me")
                house.leave("you")
            self.assertEqual(house.names(), (["a"], []))

    def test_names_rise_as_texts_do(self):
        house = house_of({"b": TENT, "ab": TENT, "a": TENT, "ba": TENT, "abc": TENT, "z": TENT})
        for name in ("zz", "aa", "m", "b"):
            house.place(name, "z", (1, 1))
        self.assertEqual(house.names(), (["a", "ab", "abc", "b", "ba", "z"], ["aa", "b", "m", "zz"]))
        self.assertEqual([name for name, point in house.together("z", 1)], ["aa", "b", "m", "zz"])


class Lists(unittest.TestCase):

    def test_lists_handed_in_and_changed_behind(self):
        house = House()
        heights = [1, 2, 0]
        house.lay("a", heights)
        house.place("me", "a", (1, 2))
        before = asked(house)
        heights[0] = 0
        heights.append(3)
        self.assertEqual(asked(house), before)
        self.assertEqual(house.corners_of("a"), [1, 2, 0])

    def test_one_list_for_two_roads(self):
        heights = [1, 2, 0]
        house = house_of({"a": heights, "b": heights})
        house.bend("a", 0, 0)
        self.assertEqual(heights, [1, 2, 0])
        self.assertEqual(house.corners_of("b"), [1, 2, 0])

    def test_told_lists_changed_behind(self):
        house = house_of({"a": [1, 2, 0]}, [("me", "a", (0, 1)), ("you", "a", (1, 1))])
        before = asked(house)
        house.names()[0].append("b")
        house.names()[1].clear()
        house.corners_of("a")[0] = 2
        house.lengths_of("a", 3).clear()
        self.assertEqual(asked(house), before)
        house.together("a", 1).clear()
        self.assertEqual(house.together("a", 0), [("me", (1, 1)), ("you", (2, 1))])

    def test_corners_told_and_laid_again(self):
        house = house_of({"a": [1, 2, 0]})
        told = house.corners_of("a")
        house.lay("b", told)
        told[0] = 0
        house.bend("a", 1, 1)
        self.assertEqual(house.corners_of("b"), [1, 2, 0])
        self.assertEqual(house.corners_of("a"), [1, 1, 0])


if __name__ == "__main__":
    unittest.main()
