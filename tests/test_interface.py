"""The interface: names and arguments as the document tells them."""

import inspect
import unittest

from crookroad import cover, order, parts, rings, road, walk

FUNCTIONS = {
    parts: {"lowest": "top bottom", "less": "one other", "ordered": "points"},
    cover: {"covered": "road stretch", "ways": "road many", "rows": "road many"},
    walk: {"walked": "road point many", "tail_ring": "road point", "far": "road point many",
           "stands": "road point many other", "meeting": "road one other", "least": "road point"},
    rings: {"point_of": "road row", "back": "road many", "lengths": "road most", "ring": "road length"},
    order: {"ahead": "one other", "arranged": "numbers", "following": "number most"},
}
ROAD = {"__init__": "self heights", "width": "self", "corners": "self", "slope": "self stretch",
        "reach": "self stretch", "at": "self point"}


class Interface(unittest.TestCase):

    def check(self, holder, told):
        for name, arguments in told.items():
            signature = inspect.signature(getattr(holder, name))
            self.assertEqual(list(signature.parameters), arguments.split(), name)
            for argument in signature.parameters.values():
                self.assertIs(argument.default, inspect.Parameter.empty, name)
                self.assertEqual(argument.kind, inspect.Parameter.POSITIONAL_OR_KEYWORD, name)

    def test_functions(self):
        for module, told in FUNCTIONS.items():
            self.check(module, told)

    def test_the_class_of_roads(self):
        self.check(road.Road, ROAD)

    def test_by_name_and_by_place(self):
        tent = road.Road(heights=[0, 2, 0])
        self.assertEqual(cover.rows(many=1, road=tent), cover.rows(tent, 1))
        self.assertEqual(walk.stands(other=(0, 1), many=5, point=(1, 1), road=tent), walk.stands(tent, (1, 1), 5, (0, 1)))
        self.assertEqual(rings.ring(length=2, road=tent), rings.ring(tent, 2))
        self.assertEqual(order.following(most=9, number=6), order.following(6, 9))


if __name__ == "__main__":
    unittest.main()
