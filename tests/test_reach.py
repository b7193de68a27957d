"""What leads where: points [40] and [41]."""

import random

from pressnotes.reach import far, reach, road_row
from tests.support import PlainCase, distances, is_row_of_roads, office_places, random_office
from tests.test_offices import OFFICE, WORTHS

# Eight places beside none and sixteen roads: several shortest rows, circles, places to which nothing leads.
GREAT = (WORTHS, (
    ("a", "b"), ("a", "c"), ("b", "c"), ("b", "d"), ("c", "b"), ("c", "d"), ("d", "e"), ("e", "a"), ("e", "f"),
    ("f", "e"), ("g", "a"), ("g", "h"), ("h", "g"), ("none", "a"), ("none", "b"), ("none", "c"),
))


class ReachTest(PlainCase):
    def row_is_told(self, office, one, other, many):
        """Some row with so many roads is told, and how far; None where many is None."""
        self.same(many, far, office, one, other)
        row = self.ask(road_row, office, one, other)
        if many is None:
            self.assertIsNone(row)
        else:
            self.assertTrue(is_row_of_roads(office, row, one, other), row)
            self.assertEqual(many + 1, len(row))

    def test_a_line(self):
        office = (WORTHS, (("bank", "post"), ("none", "press"), ("press", "bank")))
        self.same(("bank", "none", "post", "press"), reach, office, "none")
        self.same(("bank", "post", "press"), reach, office, "press")
        self.same(("bank", "post"), reach, office, "bank")
        self.same(("post",), reach, office, "post")
        self.same(("none", "press", "bank", "post"), road_row, office, "none", "post")
        self.same(3, far, office, "none", "post")
        self.same(("press", "bank"), road_row, office, "press", "bank")
        self.same(1, far, office, "press", "bank")
        self.same(None, road_row, office, "post", "bank")
        self.same(None, far, office, "post", "bank")

    def test_a_place_itself(self):
        for place in ("none", "press", "bank", "post"):
            self.same((place,), road_row, OFFICE, place, place)
            self.same(0, far, OFFICE, place, place)
            self.assertIn(place, reach(OFFICE, place))

    def test_nothing_leads_to_none(self):
        for place in ("press", "bank", "post"):
            self.same(None, road_row, OFFICE, place, "none")
            self.same(None, far, OFFICE, place, "none")

    def test_none_without_a_road(self):
        office = (WORTHS, (("bank", "post"),))
        self.same(("none",), reach, office, "none")
        self.same(("bank", "post"), reach, office, "bank")
        self.same(None, road_row, office, "none", "post")
        self.same(("none",), road_row, office, "none", "none")

    def test_circles(self):
        office = (WORTHS, (("a", "b"), ("b", "c"), ("c", "a"), ("none", "a")))
        for place in ("a", "b", "c"):
            self.same(("a", "b", "c"), reach, office, place)
        self.same(("a", "b", "c", "none"), reach, office, "none")
        self.same(("b", "c", "a"), road_row, office, "b", "a")
        self.same(2, far, office, "b", "a")
        self.same(("none", "a", "b", "c"), road_row, office, "none", "c")

    def test_several_shortest_rows(self):
        office = (WORTHS, (("a", "b"), ("a", "c"), ("b", "d"), ("c", "d"), ("none", "a")))
        self.row_is_told(office, "a", "d", 2)
        self.row_is_told(office, "none", "d", 3)

    def test_a_shorter_row_with_later_names(self):
        office = (WORTHS, (("a", "b"), ("a", "z"), ("b", "c"), ("c", "y"), ("z", "y")))
        self.same(("a", "z", "y"), road_row, office, "a", "y")

    def test_a_great_office(self):
        due = distances(GREAT)
        for one in office_places(GREAT):
            self.same(tuple(other for other in office_places(GREAT) if due[one, other] is not None), reach, GREAT, one)
            for other in office_places(GREAT):
                self.row_is_told(GREAT, one, other, due[one, other])

    def test_random_offices(self):
        chance = random.Random(121)
        apart = 0
        for _ in range(200):
            office = random_office(chance, most=10)
            due = distances(office)
            places = office_places(office)
            for one in places:
                self.same(tuple(other for other in places if due[one, other] is not None), reach, office, one)
                for other in places:
                    apart += due[one, other] is None
                    self.row_is_told(office, one, other, due[one, other])
        self.assertGreater(apart, 100)
