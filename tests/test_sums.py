"""What is seen at a place: point [34]."""

import random

from pressnotes.books import until
from pressnotes.lasts import made
from pressnotes.offices import places_of
from pressnotes.sums import seen, seen_sums, seen_worth
from tests.support import TOP, PlainCase, office_places, random_office, runs_from
from tests.test_books import bag, count, move, name, random_book, read, void
from tests.test_offices import OFFICE
from tests.test_steps import ALL_NOTES, steps_due

WORTH = {"a": 5, "b": 10}


def seen_due(book, place):
    """The notes whose last step leads to the place, one by one."""
    found = []
    for note in ALL_NOTES:
        due = steps_due(book, note)
        if due and due[-1][2] == place:
            found.append(note)
    return found


class SumsTest(PlainCase):
    def told(self, book, place, runs, sums, worth):
        self.same(runs, seen, book, place)
        self.same(sums, seen_sums, OFFICE, book, place)
        self.same(worth, seen_worth, OFFICE, book, place)

    def nothing(self, book, place):
        self.told(book, place, (), (("a", 0), ("b", 0)), 0)

    def test_a_book_of_none(self):
        for place in ("none", "press", "bank", "post", "mars", "a", "abcdefgh"):
            self.nothing((), place)

    def test_moves(self):
        book = (move(name(1), runs=(("a", 0, 10), ("b", 4, 6))), move(name(2), "press", "bank", (("a", 3, 5),)))
        self.told(book, "press", (("a", 0, 3), ("a", 5, 10), ("b", 4, 6)), (("a", 8), ("b", 2)), 60)
        self.told(book, "bank", (("a", 3, 5),), (("a", 2), ("b", 0)), 10)
        for place in ("none", "post", "mars", "pres", "pressx"):
            self.nothing(book, place)

    def test_the_last_step_counts_not_the_last_page(self):
        book = (move(name(1)), bag(name(2)), move(name(4), "bank", "post", (("a", 0, 2),)), read(name(5), name(2)))
        self.told(book, "post", (("a", 0, 2),), (("a", 2), ("b", 0)), 10)
        self.told(book, "bank", (("a", 2, 5),), (("a", 3), ("b", 0)), 15)
        self.nothing(book, "press")

    def test_touching_runs_of_two_pages_are_one(self):
        book = (move(name(1), runs=(("a", 0, 4),)), move(name(2), runs=(("a", 4, 9),)))
        self.told(book, "press", (("a", 0, 9),), (("a", 9), ("b", 0)), 45)

    def test_behind_a_void(self):
        book = (move(name(1)), move(name(2), "press", "bank", (("a", 0, 2),)), void(name(3), name(2)))
        self.told(book, "press", (("a", 0, 5),), (("a", 5), ("b", 0)), 25)
        self.nothing(book, "bank")
        self.told(until(book, 2), "press", (("a", 2, 5),), (("a", 3), ("b", 0)), 15)
        self.told(until(book, 2), "bank", (("a", 0, 2),), (("a", 2), ("b", 0)), 10)
        self.nothing(book[:1] + (void(name(3), name(1)),), "press")

    def test_bags_counts_and_waiting_reads_are_not_seen(self):
        book = (bag(name(1)), count(name(2)), read(name(3), name(9)))
        for place in places_of(OFFICE):
            self.nothing(book, place)

    def test_notes_without_a_move_ahead_are_seen_too(self):
        self.told((move(name(1), "bank", "post"),), "post", (("a", 0, 5),), (("a", 5), ("b", 0)), 25)

    def test_series_in_the_order_of_the_office(self):
        office = ((("aa", 7), ("b", 1), ("c", 1000000), ("z", 2)), OFFICE[1])
        book = (move(name(1), runs=(("aa", 0, 1), ("c", 1, 4), ("z", 5, 15))),)
        self.same((("aa", 1), ("b", 0), ("c", 3), ("z", 10)), seen_sums, office, book, "press")
        self.same(3000027, seen_worth, office, book, "press")
        self.same((("aa", 0), ("b", 0), ("c", 0), ("z", 0)), seen_sums, office, book, "none")
        self.same(0, seen_worth, office, book, "none")

    def test_long_runs(self):
        book = (
            move(name(1), runs=(("a", 0, TOP), ("b", 0, TOP))), bag(name(2), many=TOP),
            read(name(3), name(2), (("a", 5, TOP - 5),)), move(name(4), "bank", "post", (("a", 7, 8),)),
        )
        pressed = (("a", 0, 5), ("a", TOP - 5, TOP), ("b", 0, TOP))
        self.told(book, "press", pressed, (("a", 10), ("b", TOP)), 50 + 10 * TOP)
        banked = (("a", 5, 7), ("a", 8, TOP - 5))
        self.told(book, "bank", banked, (("a", TOP - 11), ("b", 0)), 5 * (TOP - 11))
        self.told(book, "post", (("a", 7, 8),), (("a", 1), ("b", 0)), 5)

    def test_against_notes_one_by_one(self):
        chance = random.Random(101)
        some = 0
        for _ in range(250):
            office = random_office(chance)
            book = random_book(chance, 14, office[1])
            everywhere = []
            for place in office_places(office) + ["mars"]:
                notes = seen_due(book, place)
                everywhere += notes
                some += len(notes) > 0
                sums = tuple((series, sum(1 for note in notes if note[0] == series)) for series in ("a", "b"))
                self.same(runs_from(notes), seen, book, place)
                self.same(sums, seen_sums, office, book, place)
                self.same(sum(WORTH[note[0]] for note in notes), seen_worth, office, book, place)
            self.assertEqual(len(everywhere), len(set(everywhere)))
            self.same(runs_from(everywhere), made, book)
            self.same((), seen, book, "none")
        self.assertGreater(some, 200)
