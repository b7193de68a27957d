"""Cuts: point [42]."""

import random

from pressnotes.cuts import cut_of, lets_cut
from tests.support import (
    JUNK, PlainCase, all_sets, cut_due, distances, office_places, random_office, set_like, variants,
)
from tests.test_offices import OFFICE, ROADS, WORTHS


def thing_due(office, one, other, thing):
    """What any thing is as a cut."""
    if not set_like(office, thing):
        return ("shape", -1)
    return cut_due(office, one, other, thing)


class LetsCutTest(PlainCase):
    def due(self, due, one, other, thing, office=OFFICE):
        self.same_or_no_paper(due, lets_cut, office, one, other, thing)

    def test_right_ones(self):
        self.due(("told", True), "bank", "press", ("bank", "post"))
        self.due(("told", True), "post", "none", ("bank", "post"))
        self.due(("told", True), "press", "none", ("bank", "post", "press"))
        self.due(("told", True), "bank", "none", ("bank", "post", "press"))

    def test_shape(self):
        for thing in (
            None, 0, 1, -1, True, False, "", "bank", "bank post", [], ["bank", "post"], ("post", "bank"),
            ("bank", "bank", "post"), ("bank", "post", "post"), ("bank", "mars", "post"), ("mars",), (None,), (1,),
            (True,), (("bank", "post"),), ("bank", ("post",)), ("bank", ["post"]), ("bank", None), ("bank", 3),
            ("bank", "post", ""), ("", "bank", "post"), ("Bank", "post"), ((),), ([],), ("bank", "post", "bank"),
            ("bank", "none", "press", "post"), {},
        ):
            self.due(("shape", -1), "bank", "press", thing)

    def test_leaves_the_first_road(self):
        # The roads: bank post, none press, post bank, press bank.
        self.assertEqual((("bank", "post"), ("none", "press"), ("post", "bank"), ("press", "bank")), ROADS)
        self.due(("leaves", 0), "bank", "press", ("bank",))
        self.due(("leaves", 1), "bank", "press", ("none",))
        self.due(("leaves", 2), "bank", "press", ("post",))
        self.due(("leaves", 3), "bank", "press", ("press",))
        self.due(("leaves", 0), "bank", "press", ("bank", "none"))
        self.due(("leaves", 1), "bank", "press", ("bank", "none", "post"))
        self.due(("leaves", 3), "bank", "press", ("none", "press"))
        self.due(("leaves", 2), "bank", "press", ("post", "press"))

    def test_leaves_goes_ahead_of_from_and_from_ahead_of_to(self):
        self.due(("leaves", 0), "none", "bank", ("bank",))
        self.due(("from", 0), "none", "bank", ("bank", "post"))
        self.due(("from", 0), "press", "post", ("bank", "post"))
        self.due(("from", 0), "press", "none", ("bank", "post"))
        self.due(("to", 0), "bank", "post", ("bank", "post"))
        self.due(("to", 0), "bank", "bank", ("bank", "post"))
        self.due(("to", 0), "press", "post", ("bank", "post", "press"))

    def test_the_void_set_and_all_places(self):
        self.due(("from", 0), "bank", "press", ())
        self.due(("from", 0), "none", "none", ())
        self.due(("to", 0), "bank", "press", ("bank", "none", "post", "press"))

    def test_none_without_a_road(self):
        office = (WORTHS, (("bank", "post"),))
        self.due(("told", True), "none", "bank", ("none",), office)
        self.due(("told", True), "none", "bank", ("none", "post"), office)
        self.due(("told", True), "post", "none", ("bank", "post"), office)

    def test_any_thing(self):
        for thing in list(JUNK) + list(variants(("bank", "post"))):
            for one, other in (("bank", "press"), ("none", "bank"), ("bank", "bank")):
                self.due(thing_due(OFFICE, one, other, thing), one, other, thing)

    def test_all_sets_of_random_offices(self):
        chance = random.Random(131)
        words = {}
        for _ in range(25):
            office = random_office(chance)
            places = office_places(office)
            for thing in all_sets(office):
                one, other = chance.choice(places), chance.choice(places)
                due = thing_due(office, one, other, thing)
                words[due[0]] = words.get(due[0], 0) + 1
                self.due(due, one, other, thing, office)
                if due[0] == "told":
                    self.assertIsNone(distances(office)[one, other])
        self.assertGreater(min(words.get(word, 0) for word in ("told", "leaves", "from", "to")), 10)


class CutOfTest(PlainCase):
    def test_just_where_the_one_does_not_come_to_the_other(self):
        chance = random.Random(132)
        cuts = 0
        for _ in range(150):
            office = random_office(chance)
            due = distances(office)
            for one in office_places(office):
                for other in office_places(office):
                    told = self.ask(cut_of, office, one, other)
                    if due[one, other] is not None:
                        self.assertIsNone(told)
                    else:
                        cuts += 1
                        self.assertEqual(("told", True), thing_due(office, one, other, told))
                        self.same(True, lets_cut, office, one, other, told)
        self.assertGreater(cuts, 100)

    def test_an_office(self):
        for one, other in (("bank", "post"), ("none", "post"), ("bank", "bank"), ("none", "none")):
            self.same(None, cut_of, OFFICE, one, other)
        for one, other in (("bank", "press"), ("post", "none"), ("press", "none")):
            self.same(True, lets_cut, OFFICE, one, other, self.ask(cut_of, OFFICE, one, other))
