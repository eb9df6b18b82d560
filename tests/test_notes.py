"""Texts: how a house is written, what is read, and what is refused."""

import random
import re
import unittest
from math import gcd

from helper import FALLING, MIXED, RISING, TENT, ZIGZAG, small_roads
from houses import FAR, asked, house_of, is_road

from crookroad.errors import BadText, NothingDone
from crookroad.house import House
from crookroad.notes import house_text, read_house

TEXT = "road a 1 2 0\nroad b 0 1\nwalker he b 1 1\nwalker me a 3 2"
SIGNS = [chr(code) for code in range(32, 127) if chr(code) != "%"] + ["\n"]
LEVEL = [7] * 25


def is_read(text):
    """Whether the text is read; the house is then written as just this text."""
    try:
        house = read_house(text)
    except BadText:
        return False
    return (house_text(house), house.deeds()) == (text, 0)


def is_house(text):
    """Whether a house is written so, by the words of the document."""
    roads, walkers = {}, []
    for row in text.split("\n") if text else ():
        road = re.fullmatch(r"road ([a-z]{1,12})((?: (?:0|[1-9][0-9]{0,8}))+)", row)
        walker = re.fullmatch(r"walker ([a-z]{1,12}) ([a-z]{1,12}) (0|[1-9][0-9]{0,8}) ([1-9][0-9]{0,8})", row)
        if road and not walkers and all(name < road[1] for name in roads):
            roads[road[1]] = [int(word) for word in road[2].split()]
        elif walker and walker[2] in roads and all(name < walker[1] for name in walkers):
            walkers.append(walker[1])
            top, bottom = int(walker[3]), int(walker[4])
            if gcd(top, bottom) > 1 or bottom > 40 or top > bottom * (len(roads[walker[2]]) - 1):
                return False
        else:
            return False
    return all(is_road(heights) for heights in roads.values())


class Written(unittest.TestCase):

    def test_no_roads(self):
        self.assertEqual(house_text(House()), "")
        house = house_of({"a": TENT})
        house.clear("a")
        self.assertEqual(house_text(house), "")

    def test_roads(self):
        self.assertEqual(house_text(house_of({"a": [0, 0]})), "road a 0 0")
        self.assertEqual(house_text(house_of({"b": TENT, "a": MIXED})), "road a 3 5 5 0 1 4\nroad b 0 2 0")
        self.assertEqual(house_text(house_of({"zigzag": ZIGZAG})), "road zigzag 0" + " 24 0" * 12)
        self.assertEqual(house_text(house_of({"up": RISING})),
                         "road up 0 1 2 3 4 5 6 7 8 9 10 11 12 13 14 15 16 17 18 19 20 21 22 23 24")
        self.assertEqual(house_text(house_of({"abcdefghijkl": LEVEL})), "road abcdefghijkl" + " 7" * 25)

    def test_walkers(self):
        house = house_of({"b": [0, 1], "a": [1, 2, 0]}, [("me", "a", (6, 4)), ("he", "b", (7, 7))])
        self.assertEqual(house_text(house), TEXT)
        house.place("a", "a", (0, 9))
        house.place("walker", "b", (39, 40))
        self.assertEqual(house_text(house), "road a 1 2 0\nroad b 0 1\nwalker a a 0 1\nwalker he b 1 1\nwalker me a 3 2\n"
                                            "walker walker b 39 40")

    def test_as_it_stands(self):
        house = house_of({"a": [1, 2, 0]}, [("me", "a", (1, 2))])
        self.assertEqual(house_text(house), "road a 1 2 0\nwalker me a 1 2")
        house.go("me", 1)
        self.assertEqual(house_text(house), "road a 1 2 0\nwalker me a 3 2")
        house.widen("a", 3)
        self.assertEqual(house_text(house), "road a 1 2 0 3\nwalker me a 3 2")
        house.take_back()
        house.take_back()
        house.leave("me")
        self.assertEqual(house_text(house), "road a 1 2 0")

    def test_names_rise_as_texts_do(self):
        house = house_of({"b": [0, 1], "ab": [0, 1], "a": [0, 1], "aa": [0, 1]})
        self.assertEqual(house_text(house), "road a 0 1\nroad aa 0 1\nroad ab 0 1\nroad b 0 1")

    def test_writing_is_no_deed(self):
        house = house_of({"a": TENT}, [("me", "a", (1, 2))])
        before = asked(house)
        house_text(house)
        self.assertEqual(asked(house), before)


class Read(unittest.TestCase):

    def test_no_roads(self):
        house = read_house("")
        self.assertIs(type(house), House)
        self.assertEqual(asked(house), asked(House()))

    def test_roads_and_walkers(self):
        house = read_house(TEXT)
        self.assertEqual(house.names(), (["a", "b"], ["he", "me"]))
        self.assertEqual(house.corners_of("a"), [1, 2, 0])
        self.assertEqual(house.corners_of("b"), [0, 1])
        self.assertEqual(house.where("me"), ("a", (3, 2)))
        self.assertEqual(house.where("he"), ("b", (1, 1)))

    def test_nothing_to_take_back(self):
        for text in ("", "road a 0 0", TEXT):
            house = read_house(text)
            self.assertEqual(house.deeds(), 0)
            with self.assertRaises(NothingDone):
                house.take_back()
            self.assertEqual(house_text(house), text)

    def test_walkers_as_if_just_set_down(self):
        house = house_of({"a": [1, 2, 0]}, [("me", "a", (1, 2))])
        house.go("me", FAR)
        again = read_house(house_text(house))
        self.assertEqual(again.where("me"), ("a", (0, 1)))
        self.assertEqual([again.stood("me", point) for point in ((0, 1), (1, 1), (2, 1), (1, 2))], [1, 0, 0, 0])
        again.go("me", 3)
        self.assertEqual([again.stood("me", point) for point in ((0, 1), (1, 1), (2, 1), (1, 2))], [2, 1, 1, 0])

    def test_deeds_behind_reading(self):
        house = read_house(TEXT)
        before = asked(house)
        house.go("me", 5)
        house.lay("c", TENT)
        house.leave("he")
        house.clear("b")
        self.assertEqual(house.deeds(), 4)
        for again in range(4):
            house.take_back()
        self.assertEqual(asked(house), before)

    def test_two_houses_of_one_text(self):
        one, other = read_house(TEXT), read_house(TEXT)
        one.bend("a", 0, 0)
        one.go("me", 3)
        self.assertEqual(house_text(other), TEXT)

    def test_written_read_and_written_again(self):
        for heights in list(small_roads()) + [ZIGZAG, RISING, FALLING, LEVEL, MIXED]:
            width = len(heights) - 1
            walkers = [("me", "a", (width, 1)), ("you", "a", (0, 1)), ("she", "a", (width * 40 - 1, 40))]
            house = house_of({"a": heights, "road": TENT}, walkers)
            text = house_text(house)
            self.assertEqual(text, "road a " + " ".join(map(str, heights)) + "\nroad road 0 2 0"
                             + f"\nwalker me a {width} 1\nwalker she a {width * 40 - 1} 40\nwalker you a 0 1")
            house.together("a", FAR)
            for text in (text, house_text(house)):
                self.assertEqual(house_text(read_house(text)), text)

    def test_each_point_with_a_bottom_up_to_forty(self):
        house = read_house("road a" + "".join(f" {k}" for k in range(25)))
        for bottom in range(1, 41):
            for top in (1, 24 * bottom - 1):
                house.place("me", "a", (top, bottom))
                text = house_text(house)
                self.assertEqual(text[-len(f" {top} {bottom}"):], f" {top} {bottom}")
                self.assertEqual(house_text(read_house(text)), text)
                house.leave("me")


class Refused(unittest.TestCase):

    def refuse(self, text):
        with self.subTest(text=text):
            with self.assertRaises(BadText) as caught:
                read_house(text)
            self.assertIs(type(caught.exception), BadText)

    def test_blanks_and_line_feeds(self):
        for text in (" ", "\n", "\n\n", TEXT + "\n", "\n" + TEXT, TEXT + " ", " " + TEXT, TEXT.replace("\n", "\n\n"),
                     TEXT.replace("\n", " \n"), TEXT.replace("\n", "\n "), TEXT.replace(" ", "  "),
                     TEXT.replace("\n", " "), TEXT.replace("\n", ""), TEXT.replace(" ", ""), TEXT.replace(" ", "\n")):
            self.refuse(text)

    def test_rows_that_tell_of_nothing(self):
        for text in ("road", "walker", "road a", "road  0 0", "walker me", "Road a 0 0", "ROAD a 0 0", "roads a 0 0",
                     "a 0 0", "0 0", "house a 0 0", "a", "-", "road\ta 0 0", "# road a 0 0"):
            self.refuse(text)
            self.refuse(text + "\nroad z 0 0")
            self.refuse("road b 0 0\n" + text)

    def test_roads_that_are_none(self):
        for heights in ("0", "", "2 0", "0 2", "0 0 3", "-1 0", "0 -1", "+1 0", "00 0", "0 00", "01 0", "1 01", "0 0x1",
                        "0 1.0", "0 1_0", "a b", "0 1e0", "0 " * 25 + "0", "25" + " 0" * 24, "0 0 ", " 0 0", "0  0",
                        "100 0", "0 999", "0 1000", "0 " + "9" * 5000, "9" * 5000, "0 0" + "0" * 5000, "1,0", "0;0"):
            self.refuse("road a " + heights)

    def test_names_that_are_none(self):
        for name in ("", "A", "a1", "1", "abcdefghijklm", "a-b", "aB", "~"):
            self.refuse(f"road {name} 0 0")
            self.refuse(f"road a 0 0\nwalker {name} a 0 1")

    def test_names_that_stand_twice(self):
        self.refuse("road a 0 0\nroad a 0 0")
        self.refuse("road a 0 0\nroad a 0 1")
        self.refuse("road a 0 0\nwalker me a 0 1\nwalker me a 0 1")
        self.refuse("road a 0 0\nwalker me a 0 1\nwalker me a 1 1")

    def test_rows_in_another_order(self):
        rows = TEXT.split("\n")
        for one in range(4):
            for other in range(one):
                moved = list(rows)
                moved[one], moved[other] = moved[other], moved[one]
                self.refuse("\n".join(moved))
        self.refuse("road b 0 0\nroad a 0 0")
        self.refuse("road b 0 0\nroad ab 0 0")
        self.refuse("road aa 0 0\nroad a 0 0")
        self.refuse("road a 0 0\nwalker b a 0 1\nwalker a a 0 1")
        self.refuse("road a 0 0\nwalker b a 0 1\nroad c 0 0")
        self.refuse("walker b a 0 1\nroad a 0 0")

    def test_walkers_without_a_road(self):
        self.refuse("walker me a 0 1")
        self.refuse("road b 0 0\nwalker me a 0 1")
        self.refuse("road b 0 0\nwalker me A 0 1")
        self.refuse("road b 0 0\nwalker me  0 1")

    def test_points_that_are_none(self):
        for point in ("0 0", "1 0", "2 1", "3 2", "-1 1", "0 -1", "-0 1", "+1 2", "2 2", "2 4", "0 2", "1 41", "1 01",
                      "01 1", "00 1", "1", "", "1 2 3", "1 2 ", " 1 2", "1/2", "1 x", "x 1", "1.0 2", "1 2.0", "41 41",
                      "1 1000", "1000 1000", "1 " + "9" * 5000, "9" * 5000 + " 1", "0" * 5000 + " 1"):
            self.refuse(f"road a 0 1\nwalker me a {point}")
        self.refuse("road a 0 0 0\nwalker me a 81 40")
        for point in ("0 1", "1 1", "1 2", "1 40", "39 40"):
            text = f"road a 0 1\nwalker me a {point}"
            self.assertEqual(house_text(read_house(text)), text)

    def test_each_row_taken_away(self):
        rows = TEXT.split("\n")
        for k, fine in ((0, False), (1, False), (2, True), (3, True)):
            text = "\n".join(rows[:k] + rows[k + 1:])
            if fine:
                self.assertEqual(house_text(read_house(text)), text)
            else:
                self.refuse(text)

    def test_each_row_written_twice(self):
        rows = TEXT.split("\n")
        for k in range(4):
            for place in range(5):
                self.refuse("\n".join(rows[:place] + [rows[k]] + rows[place:]))

    def test_long_texts(self):
        for text in ("a" * 100000, " " * 100000, "\n" * 100000, "road a" + " 0" * 50000, "0" * 100000,
                     "road " + "a" * 100000 + " 0 0"):
            self.assertFalse(is_read(text))


class SignsChanged(unittest.TestCase):
    """Texts with some signs changed: read where they have the form that the document tells, else refused."""

    def check(self, texts):
        self.assertIn(False, [is_house(text) for text in texts])
        for text in texts:
            self.assertEqual(is_read(text), is_house(text), text)

    def test_one_sign_taken_away(self):
        texts = [TEXT[:k] + TEXT[k + 1:] for k in range(len(TEXT))]
        self.assertEqual([text for text in texts if is_read(text)], [
            "road a 1 2 0\nroad b 0 1\nwalker e b 1 1\nwalker me a 3 2",
            "road a 1 2 0\nroad b 0 1\nwalker h b 1 1\nwalker me a 3 2",
            "road a 1 2 0\nroad b 0 1\nwalker he b 1 1\nwalker m a 3 2",
        ])
        self.check(texts)

    def test_one_sign_put_in(self):
        self.check([TEXT[:k] + sign + TEXT[k:] for k in range(len(TEXT) + 1) for sign in SIGNS])

    def test_one_sign_changed(self):
        self.check([TEXT[:k] + sign + TEXT[k + 1:] for k in range(len(TEXT)) for sign in SIGNS])

    def test_two_signs_exchanged(self):
        texts = [list(TEXT) for one in range(len(TEXT)) for other in range(one)]
        places = [(one, other) for one in range(len(TEXT)) for other in range(one)]
        for text, (one, other) in zip(texts, places):
            text[one], text[other] = text[other], text[one]
        self.check(["".join(text) for text in texts])

    def test_numbers_changed(self):
        words = [str(number) for number in range(-1, 45)] + ["00", "01", "80", "100"]
        self.check([f"road a {one} {other}" for one in words for other in words])
        self.check([f"road a 0 1 2\nwalker me a {top} {bottom}" for top in words for bottom in words])

    def test_parts_put_together(self):
        pick = random.Random(8)
        parts = ("road", "walker", " ", " ", " ", "\n", "a", "b", "0", "1", "2", "road a 0 1", "road b 2 0 1",
                 "walker a a 1 2", "walker b a 1 1", "walker b b 3 2", "\n", "\n")
        self.check(["".join(pick.choice(parts) for k in range(pick.randint(1, 7))) for k in range(5000)])


if __name__ == "__main__":
    unittest.main()
