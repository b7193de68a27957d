"""What pages tell of a note: points [30] to [32]."""

import functools
import random

from pressnotes.books import until
from pressnotes.steps import seals, steps, told_place
from tests.support import TOP, PlainCase, notes_of
from tests.test_books import bag, count, move, name, names_due, random_book, read, void

NOTE = ("a", 3)
ALL_NOTES = notes_of((("a", 0, 14), ("b", 0, 14), ("c", 0, 4), ("d", 0, 4)))


@functools.lru_cache(20000)
def steps_due(book, note):
    """The steps by the words of [3], page by page."""
    pages = dict(book)
    found = []
    for at in names_due(book, "counted"):
        deed = pages[at]
        if deed[0] == "move" and note in notes_of(deed[3]):
            found.append((at, deed[1], deed[2], at))
        if deed[0] == "read" and note in notes_of(deed[2]):
            found.append((deed[1], pages[deed[1]][1], pages[deed[1]][2], at))
    return tuple(sorted(found, key=lambda step: (step[0], step[3])))


def seals_due(book, note):
    pages = dict(book)
    found = []
    for at in names_due(book, "counted"):
        deed = pages[at]
        if deed[0] == "read" and note in notes_of(deed[2]):
            found.append((deed[1], at))
    return tuple(sorted(found))


class StepsTest(PlainCase):
    def told(self, book, due, due_seals, place):
        self.same(due, steps, book, NOTE)
        self.same(due_seals, seals, book, NOTE)
        self.same(place, told_place, book, NOTE)

    def test_no_step(self):
        self.told((), (), (), "none")
        self.told((bag(name(1)), count(name(2)), void(name(3), name(9))), (), (), "none")
        self.told((move(name(1), runs=(("a", 0, 3), ("a", 4, 9), ("b", 3, 4))),), (), (), "none")

    def test_moves(self):
        book = (move(name(1)), move(name(2), "press", "bank"), move(name(3), "bank", "post", (("a", 3, 4),)))
        due = ((name(1), "none", "press", name(1)), (name(2), "press", "bank", name(2)),
               (name(3), "bank", "post", name(3)))
        self.told(book, due, (), "post")
        self.same(due[:2], steps, book, ("a", 4))
        self.same("bank", told_place, book, ("a", 4))
        self.same((), steps, book, ("a", 5))
        self.same("none", told_place, book, ("a", 5))
        self.same((), steps, book, ("b", 3))

    def test_reads_of_bags(self):
        book = (move(name(1)), bag(name(2)), read(name(5), name(2)))
        due = ((name(1), "none", "press", name(1)), (name(2), "press", "bank", name(5)))
        self.told(book, due, ((name(2), name(5)),), "bank")

    def test_a_read_stands_at_its_bags_moment(self):
        book = (move(name(1)), bag(name(2)), move(name(4), "bank", "post"), read(name(5), name(2)))
        due = ((name(1), "none", "press", name(1)), (name(2), "press", "bank", name(5)),
               (name(4), "bank", "post", name(4)))
        self.told(book, due, ((name(2), name(5)),), "post")

    def test_a_read_ahead_of_its_bag(self):
        book = (read(name(1), name(4)), move(name(2)), bag(name(4)))
        due = ((name(2), "none", "press", name(2)), (name(4), "press", "bank", name(1)))
        self.told(book, due, ((name(4), name(1)),), "bank")

    def test_two_reads_of_one_bag(self):
        book = (read(name(1), name(4)), bag(name(4)), read(name(6), name(4)))
        due = ((name(4), "press", "bank", name(1)), (name(4), "press", "bank", name(6)))
        self.told(book, due, ((name(4), name(1)), (name(4), name(6))), "bank")

    def test_seals_rise(self):
        book = (read(name(0), name(5)), bag(name(2)), bag(name(5), "bank", "post"), read(name(7), name(2)))
        due = ((name(2), "press", "bank", name(7)), (name(5), "bank", "post", name(0)))
        self.told(book, due, ((name(2), name(7)), (name(5), name(0))), "post")

    def test_what_is_not_counted_is_no_step(self):
        book = (move(name(1)), move(name(2), "press", "bank"), void(name(3), name(2)))
        self.told(book, ((name(1), "none", "press", name(1)),), (), "press")
        book = (move(name(1)), bag(name(2)), read(name(3), name(2)), void(name(4), name(2)))
        self.told(book, ((name(1), "none", "press", name(1)),), (), "press")
        book = (move(name(1)), bag(name(2)), read(name(3), name(2)), void(name(4), name(3)))
        self.told(book, ((name(1), "none", "press", name(1)),), (), "press")
        book = (move(name(1)), read(name(3), name(1)), read(name(4), name(8)))
        self.told(book, ((name(1), "none", "press", name(1)),), (), "press")

    def test_at_the_ends_of_runs(self):
        book = (move(name(1), runs=(("a", 3, 6), ("a", 8, TOP), ("b", 0, 1))),)
        one = ((name(1), "none", "press", name(1)),)
        for note, due in ((("a", 2), ()), (("a", 3), one), (("a", 5), one), (("a", 6), ()), (("a", 7), ()),
                          (("a", 8), one), (("a", TOP - 1), one), (("b", 0), one), (("b", 1), ()), (("c", 0), ())):
            self.same(due, steps, book, note)

    def test_by_days(self):
        book = (move(name(1)), bag(name(2)), move(name(4), "bank", "post"), read(name(5), name(2)))
        book += (void(name(6), name(4)),)
        places = ("none", "press", "press", "press", "post", "post", "bank")
        for day, place in enumerate(places):
            self.same(place, told_place, until(book, day), NOTE)

    def test_random_books(self):
        chance = random.Random(81)
        some = 0
        for _ in range(500):
            book = random_book(chance, 14)
            for note in chance.sample(ALL_NOTES, 6):
                due = steps_due(book, note)
                some += len(due)
                self.same(due, steps, book, note)
                self.same(seals_due(book, note), seals, book, note)
                self.same(due[-1][2] if due else "none", told_place, book, note)
        self.assertGreater(some, 1000)
