"""The house: deeds taken back, and twins."""

import random
import unittest

from helper import MIXED, RISING, TENT
from houses import FAR, SlowHouse, asked, asked_to_the_end, house_of, told

from crookroad.errors import NothingDone
from crookroad.house import House

DEEDS = (
    ("lay", "new", [0, 1]),
    ("bend", "a", 0, 2),
    ("bend", "a", 0, 1),
    ("widen", "a", 3),
    ("narrow", "up"),
    ("clear", "free"),
    ("place", "new", "a", (4, 6)),
    ("leave", "me"),
    ("go", "me", 0),
    ("go", "me", 1),
    ("go", "me", FAR),
    ("together", "a", 0),
    ("together", "a", 5),
    ("together", "a", FAR),
    ("together", "free", 1),
)
NAMES = ("a", "b", "c", "dd")
OTHER_NAMES = ("", "A", "abcdefghijkl", "abcdefghijklm", "a b")


def some_house():
    house = house_of({"a": [1, 2, 0], "up": [0, 1, 2, 3], "free": TENT},
                     [("me", "a", (1, 2)), ("you", "a", (2, 5)), ("she", "up", (3, 2))])
    house.go("me", 3)
    return house


def do(house, deed, *arguments):
    return getattr(house, deed)(*arguments)


class TakenBack(unittest.TestCase):

    def test_each_deed(self):
        for deed in DEEDS:
            with self.subTest(deed=deed):
                house = some_house()
                before = asked_to_the_end(house)
                do(house, *deed)
                self.assertEqual(house.deeds(), len(before))
                self.assertIsNone(house.take_back())
                self.assertEqual(asked_to_the_end(house), before)

    def test_deeds_change_what_is_asked(self):
        for deed in DEEDS:
            house = some_house()
            before = asked(house)
            do(house, *deed)
            after = asked(house)
            left_as_it_was = deed in (("bend", "a", 0, 1), ("go", "me", 0), ("together", "a", 0), ("together", "free", 1))
            self.assertEqual({key: value for key, value in before.items() if key != "deeds"}
                             == {key: value for key, value in after.items() if key != "deeds"}, left_as_it_was, deed)
            self.assertEqual(after["deeds"], before["deeds"] + 1)

    def test_each_two_deeds(self):
        for one in DEEDS:
            for other in DEEDS:
                house = some_house()
                before = asked(house)
                do(house, *one)
                between = asked(house)
                if isinstance(told(do, house, *other), type):
                    self.assertEqual(asked(house), between)
                    continue
                house.take_back()
                self.assertEqual(asked(house), between, (one, other))
                house.take_back()
                self.assertEqual(asked(house), before, (one, other))

    def test_many_deeds_one_by_one(self):
        house = House()
        kept = []
        for k in range(300):
            kept.append(asked(house))
            name = "abcdefghij"[k % 10]
            deed = k % 30 // 10
            if deed == 0:
                house.lay(name, [1, 2, 0])
            elif deed == 1:
                house.bend(name, 0, 0)
            else:
                house.clear(name)
        self.assertEqual(house.deeds(), 300)
        while kept:
            house.take_back()
            self.assertEqual(asked(house), kept.pop())
        with self.assertRaises(NothingDone):
            house.take_back()
        self.assertEqual(asked(house), asked(House()))

    def test_a_thousand_goings_taken_back(self):
        house = house_of({"a": MIXED}, [("me", "a", (1, 7))])
        places = []
        for k in range(1000):
            places.append((house.where("me"), house.stood("me", (1, 7)), house.stood("me", house.where("me")[1])))
            house.go("me", k)
        for place in reversed(places):
            house.take_back()
            here = house.where("me")
            self.assertEqual((here, house.stood("me", (1, 7)), house.stood("me", here[1])), place)
        self.assertEqual(house.deeds(), 2)

    def test_a_deed_behind_one_taken_back(self):
        house = house_of({"a": [1, 2, 0]}, [("me", "a", (0, 1))])
        house.go("me", 1)
        house.take_back()
        house.go("me", 2)
        self.assertEqual(house.deeds(), 3)
        self.assertEqual(house.where("me"), ("a", (2, 1)))
        house.take_back()
        self.assertEqual(house.where("me"), ("a", (0, 1)))
        house.take_back()
        house.take_back()
        self.assertEqual(house.names(), ([], []))

    def test_asking_is_no_deed(self):
        house = some_house()
        for again in range(3):
            asked(house)
            house.twin()
        self.assertEqual(house.deeds(), 7)

    def test_refusals_are_no_deeds(self):
        house = some_house()
        for refused in (("lay", "a", TENT), ("clear", "a"), ("go", "me", -1), ("narrow", "a"), ("leave", "nobody")):
            self.assertIsInstance(told(do, house, *refused), type)
        self.assertEqual(house.deeds(), 7)
        house.take_back()
        self.assertEqual(house.where("me"), ("a", (1, 2)))


class Twins(unittest.TestCase):

    def test_stands_as_the_house_does(self):
        for house in (House(), some_house()):
            twin = house.twin()
            self.assertIs(type(twin), House)
            self.assertIsNot(twin, house)
            self.assertEqual(asked(twin), asked(house))
            self.assertEqual(asked_to_the_end(twin), asked_to_the_end(house))

    def test_each_deed_of_either(self):
        for deed in DEEDS:
            house = some_house()
            twin = house.twin()
            before = asked_to_the_end(house)
            do(twin, *deed)
            self.assertEqual(asked_to_the_end(house), before, deed)
            changed = asked_to_the_end(twin)
            self.assertNotEqual(changed, before)
            do(house, *deed)
            self.assertEqual(asked_to_the_end(house), changed)
            house.take_back()
            self.assertEqual(asked_to_the_end(twin), changed, deed)
            self.assertEqual(asked_to_the_end(house), before)

    def test_taking_back_from_either(self):
        house = some_house()
        twin = house.twin()
        before = asked_to_the_end(house)
        while twin.deeds() > 0:
            twin.take_back()
            self.assertEqual(asked_to_the_end(house), before)
        self.assertEqual(twin.names(), ([], []))
        other = house.twin()
        while house.deeds() > 0:
            house.take_back()
        self.assertEqual(asked_to_the_end(other), before)
        with self.assertRaises(NothingDone):
            house.take_back()
        other.take_back()
        self.assertEqual(asked_to_the_end(other), before[1:])

    def test_what_is_done_behind_a_deed_taken_back(self):
        house = some_house()
        twin = house.twin()
        house.take_back()
        house.go("me", 7)
        twin.go("you", 3)
        self.assertEqual(house.where("you"), ("a", (2, 5)))
        self.assertEqual(house.stood("you", (2, 5)), 1)
        twin.take_back()
        twin.take_back()
        twin.go("me", 7)
        self.assertEqual(asked_to_the_end(twin), asked_to_the_end(house))

    def test_goings_of_twins_count_apart(self):
        house = house_of({"a": RISING}, [("me", "a", (1, 2))])
        twin = house.twin()
        house.go("me", 5)
        self.assertEqual(twin.stood("me", (1, 2)), 1)
        twin.together("a", FAR)
        self.assertEqual(house.stood("me", (1, 2)), 6)
        third = twin.twin()
        third.leave("me")
        self.assertEqual(twin.stood("me", (1, 2)), FAR + 1)
        third.take_back()
        self.assertEqual(third.stood("me", (1, 2)), FAR + 1)


class BesideASlowHouse(unittest.TestCase):
    """Deeds by the hundred, wrong ones among them, done to a house and to one that keeps each step."""

    def some_deed(self, pick):
        deed = pick.choice("lay lay bend bend widen narrow narrow clear place place place leave go go together".split())
        if pick.random() < 0.12:
            return ("take_back",)
        name = pick.choice(NAMES if pick.random() < 0.95 else OTHER_NAMES)
        whose = pick.choice(NAMES if pick.random() < 0.95 else OTHER_NAMES)
        many = pick.choice((0, 1, 1, 2, 3, 7, 30, -1, FAR + 1))
        width = pick.choice((1, 2, 3, 4, 5))
        bottom = pick.choice((1, 1, 2, 3, 5, 10, 40, 41, 0, -1))
        return {
            "lay": (deed, name, [pick.randint(0, width + (pick.random() < 0.02)) for k in range(width + 1)]),
            "bend": (deed, name, pick.randint(-1, 6), pick.randint(-1, 5)),
            "widen": (deed, name, pick.randint(-1, 6)),
            "place": (deed, name, whose, (pick.randint(-1, 4 * max(bottom, 1)), bottom)),
            "go": (deed, name, many),
            "together": (deed, name, many),
        }.get(deed, (deed, name))

    def test_both_tell_the_same(self):
        done = {}
        for seed in range(40):
            pick = random.Random(seed)
            house, slow = House(), SlowHouse()
            for k in range(120):
                deed = self.some_deed(pick)
                answer = told(do, house, *deed)
                self.assertEqual(answer, told(do, slow, *deed), (seed, k, deed))
                kind = (deed[0], answer.__name__ if isinstance(answer, type) else "done")
                done[kind] = done.get(kind, 0) + 1
                if k % 6 == 0:
                    self.assertEqual(asked(house), slow.answers(), (seed, k, deed))
            while house.deeds() > 0:
                house.take_back()
                slow.take_back()
                if house.deeds() % 10 == 0:
                    self.assertEqual(asked(house), slow.answers(), seed)
        for deed in "lay bend widen narrow clear place leave go together take_back".split():
            self.assertGreater(done[(deed, "done")], 20, deed)
        for kind in (("narrow", "Stood"), ("clear", "Stood"), ("narrow", "BadLine"), ("place", "OffRoad"),
                     ("place", "BadBottom"), ("lay", "Taken"), ("go", "BadCount")):
            self.assertGreater(done[kind], 5, kind)


if __name__ == "__main__":
    unittest.main()
