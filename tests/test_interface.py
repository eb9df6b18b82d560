"""The interface: names and arguments as the document tells them."""

import inspect
import unittest

from crookroad import build, cover, house, laid, notes, order, parts, rings, road, walk

FUNCTIONS = {
    parts: {"lowest": "top bottom", "less": "one other", "ordered": "points"},
    cover: {"covered": "road stretch", "ways": "road many", "rows": "road many"},
    walk: {"walked": "road point many", "tail_ring": "road point", "far": "road point many",
           "stands": "road point many other", "meeting": "road one other", "least": "road point"},
    rings: {"point_of": "road row", "back": "road many", "lengths": "road most", "ring": "road length"},
    order: {"ahead": "one other", "arranged": "numbers", "following": "number most"},
    build: {"mirrored": "road", "finer": "road many", "doubled": "road", "beside": "road other", "odd_road": "number",
            "road_for": "number"},
    laid: {"laid": "road many", "laps": "road many"},
    notes: {"house_text": "house", "read_house": "text"},
}
ROAD = {"__init__": "self heights", "width": "self", "corners": "self", "slope": "self stretch",
        "reach": "self stretch", "at": "self point"}

HOUSE = {"__init__": "self", "lay": "self name heights", "bend": "self name corner height", "widen": "self name height",
         "narrow": "self name", "clear": "self name", "place": "self name whose point", "leave": "self name",
         "go": "self name many", "together": "self whose many", "take_back": "self", "deeds": "self", "names": "self",
         "corners_of": "self name", "where": "self name", "stood": "self name point", "meet": "self one other",
         "lengths_of": "self name most", "twin": "self"}


class Interface(unittest.TestCase):

    def check(self, holder, told):
        for name, arguments in told.items():
            signature = inspect.signature(getattr(holder, name))
            self.assertEqual(list(signature.parameters), arguments.split(), name)
            for argument in signature.parameters.values():
                self.assertIs(argument.default, inspect.Parameter.empty, name)
                self.assertEqual(argument.kind, inspect.Parameter.POSITIONAL_OR_KEYWORD, name)

    def test_functions(self):
        for module, told in FUNCTIONS.items():
            self.check(module, told)

    def test_the_class_of_roads(self):
        self.check(road.Road, ROAD)

    def test_the_class_of_houses(self):
        self.check(house.House, HOUSE)

    def test_by_name_and_by_place(self):
        tent = road.Road(heights=[0, 2, 0])
        self.assertEqual(cover.rows(many=1, road=tent), cover.rows(tent, 1))
        self.assertEqual(walk.stands(other=(0, 1), many=5, point=(1, 1), road=tent), walk.stands(tent, (1, 1), 5, (0, 1)))
        self.assertEqual(rings.ring(length=2, road=tent), rings.ring(tent, 2))
        self.assertEqual(order.following(most=9, number=6), order.following(6, 9))
        self.assertEqual(build.beside(other=tent, road=road.Road([0, 1])).corners(), [0, 1, 2, 4, 2])
        self.assertEqual(laid.laid(many=2, road=tent), laid.laid(tent, 2))
        home = house.House()
        home.lay(heights=[0, 2, 0], name="a")
        home.place(point=(1, 1), whose="a", name="me")
        self.assertEqual(home.go(many=1, name="me"), (2, 1))
        self.assertEqual(notes.house_text(house=notes.read_house(text="road a 0 0")), "road a 0 0")


if __name__ == "__main__":
    unittest.main()
