"""Labels: point [43]."""

import random

from pressnotes.labels import labels_of, lets_labels
from tests.support import (
    BIG, FORTY_FIGURES, JUNK, PlainCase, distances, office_places, only_lists_for_tuples, only_truths_for_numbers,
    random_office, variants,
)
from tests.test_offices import OFFICE, WORTHS
from tests.test_reach import GREAT

RIGHT = (("bank", 2), ("none", 0), ("post", 3), ("press", 1))


def labels_due(office, one, other, thing):
    """What any thing is as labels, by the words of [43]."""
    places = office_places(office)
    if type(thing) is not tuple or len(thing) != len(places):
        return ("shape", -1)
    for label, place in zip(thing, places):
        if type(label) is not tuple or len(label) != 2 or type(label[0]) is not str or label[0] != place:
            return ("shape", -1)
        if type(label[1]) is not int:
            return ("shape", -1)
    numbers = dict(thing)
    for k, (start, end) in enumerate(office[1]):
        if numbers[end] - numbers[start] > 1:
            return ("road", k)
    return ("told", numbers[other] - numbers[one])


class LetsLabelsTest(PlainCase):
    def due(self, due, one, other, thing, office=OFFICE):
        self.same_or_no_paper(due, lets_labels, office, one, other, thing)

    def test_right_ones(self):
        for one, other, shown in (
            ("none", "post", 3), ("none", "press", 1), ("bank", "post", 1), ("post", "bank", -1), ("post", "none", -3),
            ("press", "press", 0), ("none", "none", 0),
        ):
            self.due(("told", shown), one, other, RIGHT)

    def test_numbers_below_0_that_stay_or_fall(self):
        self.due(("told", 0), "none", "post", (("bank", 0), ("none", 0), ("post", 0), ("press", 0)))
        self.due(("told", 3), "none", "post", (("bank", -8), ("none", -10), ("post", -7), ("press", -9)))
        self.due(("told", -BIG), "none", "press", (("bank", -BIG), ("none", 0), ("post", -BIG), ("press", -BIG)))
        self.due(("told", 2 * FORTY_FIGURES), "bank", "none", (
            ("bank", -FORTY_FIGURES), ("none", FORTY_FIGURES), ("post", -FORTY_FIGURES), ("press", 0)))
        self.due(("told", -7), "none", "bank", (("bank", -7), ("none", 0), ("post", -6), ("press", -7)))

    def test_shape(self):
        for thing in (
            None, 0, True, "", "none", [], (), list(RIGHT), RIGHT[:3], RIGHT[1:], RIGHT + (("z", 4),), RIGHT[::-1],
            RIGHT + RIGHT[-1:], RIGHT[:1] + RIGHT, (RIGHT[1], RIGHT[0]) + RIGHT[2:], dict(RIGHT),
            (("bank", 2), ("none", 0), ("post", 3), ("mars", 1)), (("bank", 2), ("none", 0), ("post", 3), "press"),
            (("bank", 2), ["none", 0], ("post", 3), ("press", 1)), (("bank", 2), ("none",), ("post", 3), ("press", 1)),
            (("bank", 2), ("none", 0, 0), ("post", 3), ("press", 1)),
            (("bank", 2), ("none", False), ("post", 3), ("press", 1)),
            (("bank", 2), ("none", 0), ("post", 3), ("press", True)),
            (("bank", 2), ("none", None), ("post", 3), ("press", 1)),
            (("bank", 2), ("none", "0"), ("post", 3), ("press", 1)),
            (("bank", 2), ("none", (0,)), ("post", 3), ("press", 1)),
            tuple(place for place, number in RIGHT), tuple(number for place, number in RIGHT),
        ):
            self.due(("shape", -1), "none", "post", thing)
        # The place none must be told, too, where no road has it.
        office = (WORTHS, (("bank", "post"),))
        self.due(("shape", -1), "bank", "post", (("bank", 0), ("post", 1)), office)
        self.due(("told", 1), "bank", "post", (("bank", 0), ("none", 70), ("post", 1)), office)

    def test_the_first_road(self):
        # The roads: bank post, none press, post bank, press bank.
        for numbers, k in (((0, 0, 2, 0), 0), ((0, 0, 0, 2), 1), ((2, 0, 0, 1), 2), ((2, 0, 1, 0), 3),
                           ((0, 0, 2, 2), 0), ((9, 0, 9, 9), 1), ((9, 0, 8, 1), 3), ((2, 0, 0, 0), 2)):
            thing = tuple(zip(("bank", "none", "post", "press"), numbers))
            self.due(("road", k), "none", "post", thing)

    def test_shape_goes_ahead_of_road(self):
        self.due(("shape", -1), "none", "post", (("bank", 0), ("none", 0), ("post", 9), ("press", True)))

    def test_any_thing(self):
        for thing in list(JUNK) + list(variants(RIGHT)):
            self.due(labels_due(OFFICE, "none", "post", thing), "none", "post", thing)
        for thing in list(only_lists_for_tuples(RIGHT)) + list(only_truths_for_numbers(RIGHT)):
            self.due(("shape", -1), "none", "post", thing)

    def test_random_ones(self):
        chance = random.Random(141)
        told = 0
        for _ in range(600):
            office = random_office(chance)
            places = office_places(office)
            thing = tuple((place, chance.randint(-2, 1)) for place in places)
            one, other = chance.choice(places), chance.choice(places)
            due = labels_due(office, one, other, thing)
            self.due(due, one, other, thing, office)
            far = distances(office)[one, other]
            if due[0] == "told" and far is not None:
                told += 1
                self.assertLessEqual(due[1], far)
        self.assertGreater(told, 30)


class LabelsOfTest(PlainCase):
    def all_labels(self, office):
        due = distances(office)
        for one in office_places(office):
            for other in office_places(office):
                told = self.ask(labels_of, office, one, other)
                if due[one, other] is None:
                    self.assertIsNone(told)
                else:
                    self.assertEqual(("told", due[one, other]), labels_due(office, one, other, told))
                    self.same(due[one, other], lets_labels, office, one, other, told)

    def test_some_offices(self):
        self.all_labels(OFFICE)
        self.all_labels(GREAT)
        self.all_labels((WORTHS, (("bank", "post"),)))

    def test_random_offices(self):
        chance = random.Random(142)
        for _ in range(150):
            self.all_labels(random_office(chance, most=10))
