"""Balances: points [35], [36] and [37]."""

import random

from pressnotes.balances import balance, by_days, moved
from pressnotes.books import until
from pressnotes.sums import seen
from tests.support import TOP, PlainCase, notes_of, office_places, random_office
from tests.test_books import bag, count, move, name, names_due, random_book, read, void
from tests.test_steps import ALL_NOTES, steps_due


def balance_due(book, place):
    """By the words of [35], page by page, note by note."""
    pages = dict(book)
    total = 0
    for at in names_due(book, "counted"):
        deed = pages[at]
        if deed[0] in ("move", "bag"):
            many = len(notes_of(deed[3])) if deed[0] == "move" else deed[3]
            total += many * ((deed[2] == place) - (deed[1] == place))
    return total


def moved_due(book, place, series):
    pages = dict(book)
    total = 0
    for at in names_due(book, "counted"):
        deed = pages[at]
        if deed[0] == "move":
            many = len([note for note in notes_of(deed[3]) if note[0] == series])
            total += many * ((deed[2] == place) - (deed[1] == place))
    return total


def note_gaps(told):
    """The gaps of a note's steps, in order."""
    places = [("none", told[0][1])] if told else []
    places += [(told[at - 1][2], told[at][1]) for at in range(1, len(told))]
    return [(one, other) for one, other in places if one != other]


class BalanceTest(PlainCase):
    def test_a_book_of_none(self):
        for place in ("none", "press", "bank", "mars"):
            self.same(0, balance, (), place)
            self.same(0, moved, (), place, "a")
            self.same([], by_days, (), place)

    def test_moves(self):
        book = (move(name(1), runs=(("a", 0, 10), ("b", 4, 6))), move(name(2), "press", "bank", (("a", 3, 5),)))
        for place, total, of_a, of_b in (("none", -12, -10, -2), ("press", 10, 8, 2), ("bank", 2, 2, 0),
                                         ("post", 0, 0, 0), ("mars", 0, 0, 0)):
            self.same(total, balance, book, place)
            self.same(of_a, moved, book, place, "a")
            self.same(of_b, moved, book, place, "b")
            self.same(0, moved, book, place, "c")
            self.same(0, moved, book, place, "aa")

    def test_bags_turn_the_balance_reads_do_not(self):
        book = (move(name(1)), bag(name(2)), read(name(3), name(2), (("a", 0, 2),)))
        for place, total, of_moves in (("none", -5, -5), ("press", 1, 5), ("bank", 4, 0)):
            self.same(total, balance, book, place)
            self.same(of_moves, moved, book, place, "a")

    def test_below_none(self):
        book = (bag(name(2), "bank", "post", 7), move(name(3), "bank", "post", (("b", 0, 3),)))
        self.same(-10, balance, book, "bank")
        self.same(10, balance, book, "post")
        self.same(-3, moved, book, "bank", "b")
        self.same(0, balance, book, "none")

    def test_voided_and_waiting_pages_and_counts(self):
        book = (
            move(name(1)), move(name(2), "press", "bank", (("a", 0, 2),)), bag(name(3)), void(name(4), name(2)),
            void(name(5), name(3)), count(name(6), "press", 99), read(name(7), name(3)),
        )
        for place, total in (("none", -5), ("press", 5), ("bank", 0)):
            self.same(total, balance, book, place)
            self.same(total, moved, book, place, "a")
        self.same(-1, balance, book[:3], "press")
        self.same(6, balance, book[:3], "bank")

    def test_long_runs(self):
        book = (move(name(1), runs=(("a", 0, TOP), ("b", 0, TOP))), bag(name(2), many=TOP))
        self.same(TOP, balance, book, "press")
        self.same(TOP, moved, book, "press", "b")
        self.same(-2 * TOP, balance, book, "none")

    def test_against_notes_one_by_one(self):
        chance = random.Random(111)
        below = 0
        for _ in range(400):
            office = random_office(chance)
            book = random_book(chance, 14, office[1])
            for place in office_places(office) + ["mars"]:
                due = balance_due(book, place)
                below += due < 0
                self.same(due, balance, book, place)
                for series in ("a", "b", "c"):
                    self.same(moved_due(book, place, series), moved, book, place, series)
        self.assertGreater(below, 50)


class ByDaysTest(PlainCase):
    def test_days_without_counted_pages(self):
        book = (move(name(1)), void(name(3), name(9)), read(name(4), name(8)), count(name(7)), void(name(9), name(7)))
        self.same([(1, 5), (3, 5), (4, 5), (7, 5), (9, 5)], by_days, book, "press")
        self.same([(1, -5), (3, -5), (4, -5), (7, -5), (9, -5)], by_days, book, "none")
        self.same([(1, 0), (3, 0), (4, 0), (7, 0), (9, 0)], by_days, book, "mars")

    def test_each_day_once(self):
        book = (move(name(2)), move(name(2, 1), runs=(("b", 0, 3),)), bag(name(2, 1, "b")), bag(name(5), many=1))
        self.same([(2, 4), (5, 3)], by_days, book, "press")
        self.same([(2, 4), (5, 5)], by_days, book, "bank")

    def test_a_void_of_a_later_day(self):
        book = (move(name(0)), move(name(1), runs=(("a", 5, 8),)), void(name(4), name(0)))
        self.same([(0, 5), (1, 8), (4, 3)], by_days, book, "press")
        # A void ahead of the page that it names: that page never counts.
        book = (void(name(0), name(3)), move(name(2)), move(name(3), runs=(("a", 5, 8),)))
        self.same([(0, 0), (2, 5), (3, 5)], by_days, book, "press")

    def test_a_bag_of_a_later_day(self):
        book = (read(name(1), name(6)), move(name(2)), bag(name(6)))
        self.same([(1, 0), (2, 5), (6, 1)], by_days, book, "press")
        self.same([(1, 0), (2, 0), (6, 4)], by_days, book, "bank")

    def test_the_list_is_the_askers_own(self):
        book = (move(name(1)),)
        told = by_days(book, "press")
        told.append("more")
        self.same([(1, 5)], by_days, book, "press")

    def test_random_books(self):
        chance = random.Random(112)
        for _ in range(150):
            book = random_book(chance, 14)
            days = sorted({at[0] for at, deed in book})
            for place in ("none", "press", "bank", "post"):
                due = [(day, balance_due(until(book, day), place)) for day in days]
                self.same(due, by_days, book, place)


class WholeTest(PlainCase):
    def test_what_37_says(self):
        chance = random.Random(113)
        with_gaps = 0
        for _ in range(300):
            office = random_office(chance)
            book = random_book(chance, 14, office[1])
            pages = dict(book)
            told = [due for due in (steps_due(book, note) for note in ALL_NOTES) if due]
            gaps = [gap for due in told for gap in note_gaps(due)]
            with_gaps += len(gaps) > 0
            bags = {at: pages[at] for at in names_due(book, "counted") if pages[at][0] == "bag"}
            left = {at: deed[3] - sum(1 for due in told for step in due if step[0] == at) for at, deed in bags.items()}
            for place in office_places(office):
                due = len(notes_of(seen(book, place)))
                due += sum(left[at] for at in bags if bags[at][2] == place)
                due -= sum(left[at] for at in bags if bags[at][1] == place)
                due += sum(1 for one, other in gaps if one == place) - sum(1 for one, other in gaps if other == place)
                due -= len(told) if place == "none" else 0
                self.same(due, balance, book, place)
        self.assertGreater(with_gaps, 50)
